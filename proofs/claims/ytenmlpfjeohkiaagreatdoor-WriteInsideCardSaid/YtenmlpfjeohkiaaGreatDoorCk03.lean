/-
  Walks of stage 6: the reader in memory; pass, skipSpaces. Walks of stage 6: what ends a name or a value, starts, upTo, quoted, value. Walks of stage 6: quoted, value, attr of the reader. Walks of stage 6: attr of the reader.
  Walks of stage 6: attrs of the reader: a tag's attributes, in a loop with a label, the names seen kept in a map. Walks of stage 6: attrs of the reader: the loop.
  Walks of stage 6: what a '<' begins, whether an end tag stands here. Walks of stage 6: begun, isEndTag. Walks of stage 6: plain, upToEndTag of the reader.
  boltingref02.Has.
  Walks of stage 5: names.among, names.Raw, Soft, the document's own.
-/
import Derived.Test.YtenmlpfjeohkiaaGreatDoorCk02
import Derived.StillTailTactics
import Derived.Deep.CutRange
import Derived.Deep.RegionHeld3
import Derived.Maps.OwnSet
import Derived.StringKeys
import Derived.WalkMore
import Derived.Test.YtenmlpfjeohkiaaGreatDoorCk01
namespace Go.Proofs.YtenmlpfjeohkiaaGreatDoor.To
set_option maxRecDepth 100000
set_option linter.unusedSimpArgs false
set_option linter.unusedVariables false
open Go.RowKit Ba Fm Fo Tm
/-- Block b is a reader: its text, its place, what it has so far. -/
def Rc (w : World) (b : Nat) (s : ByteArray) (k : Nat) (v : Value) : Prop := w.heap[b]? = some (.cells #[.string s, .int .i64 k, v] 70)
theorem Rc.c0 {w : World} {b k : Nat} {s : ByteArray} {v : Value} (h : Rc w b s k v) : w.cell? ⟨b, 0, none⟩ = some (.string s) := by rw [cell_of_row w b 0 _ _ _ h]; rfl
theorem Rc.c1 {w : World} {b k : Nat} {s : ByteArray} {v : Value} (h : Rc w b s k v) : w.cell? ⟨b, 1, none⟩ = some (.int .i64 k) := by rw [cell_of_row w b 1 _ _ _ h]; rfl
theorem Rc.c2 {w : World} {b k : Nat} {s : ByteArray} {v : Value} (h : Rc w b s k v) : w.cell? ⟨b, 2, none⟩ = some v := by rw [cell_of_row w b 2 _ _ _ h]; rfl
theorem Rc.f {w : World} {b k : Nat} {s : ByteArray} {v : Value} (h : Rc w b s k v) (j : Nat) : w.frozen? ⟨b, j, none⟩ = false := by
  unfold Rc at h
  simp [World.frozen?, h]
theorem Rc.lt {w : World} {b k : Nat} {s : ByteArray} {v : Value} (h : Rc w b s k v) : b < w.heap.size := (Array.getElem?_eq_some_iff.1 h).1
theorem Rc.set1 {w : World} {b k : Nat} {s : ByteArray} {v : Value} (h : Rc w b s k v) (m : Nat) : Rc (w.setCell ⟨b, 1, none⟩ (.int .i64 m)) b s m v := by
  unfold Rc at h ⊢
  simp [World.setCell, Array.getElem?_modify, h]
theorem Rc.set2 {w : World} {b k : Nat} {s : ByteArray} {v : Value} (h : Rc w b s k v) (u : Value) : Rc (w.setCell ⟨b, 2, none⟩ u) b s k u := by
  unfold Rc at h ⊢
  simp [World.setCell, Array.getElem?_modify, h]
theorem Rc.drew {w : World} {b k : Nat} {s : ByteArray} {v : Value} (h : Rc w b s k v) (n : Nat) : Rc (w.drewN n) b s k v := h
theorem Rc.below {w w' : World} {b k : Nat} {s : ByteArray} {v : Value} (h : Rc w b s k v) (hb : Below w.heap.size w w') : Rc w' b s k v := (hb.block b h.lt).trans h
abbrev rp (b : Nat) : Value := .pointer (some ⟨b, 0, none⟩)

theorem g_dN (w : World) (n : Nat) (row : Option Nat) : w.grownBy (w.drewN n) row := ⟨rfl, rfl, rfl, Nat.le_refl _, fun _ _ _ => rfl⟩
theorem g_set (w : World) (b j : Nat) (u : Value) : w.grownBy (w.setCell ⟨b, j, none⟩ u) (some b) :=
  ⟨rfl, rfl, rfl, by simp [World.setCell], fun k _ hk => Below.heap_setCell _ _ _ _ (fun e => hk (by simp [e]))⟩

/-- A callee that only reads, within a region that draws. -/
theorem quietB {P : Program} {f : FuncId} {args : Array Value} {w : World} {n : Nat} {u v : Bool}
    (h : Calls P f args (w.drewN n) fun e w' => e = .returned (.bool u) ∧ w.drewN n = w') (hu : u = v) : Calls P f args (w.drewN n) fun e w'' => e = .returned (.bool v) ∧ ∃ m, w'' = w.drewN m :=
  h.mono fun _ _ ⟨he, hm⟩ => ⟨by rw [he, hu], n, hm.symm⟩

/-- Does the rest begin with this byte? -/
def hd (c : UInt8) (l : List UInt8) : Bool := by1 (is c) l

set_option maxHeartbeats 1000000 in
theorem pass_any (b k : Nat) (s : ByteArray) (v : Value) (c : UInt8) (w : World) (h : Rc w b s k v) (hk : k ≤ s.size) (hs : s.size ≤ 140737488355328) :
    Calls Tryz.prog 85 #[rp b, .int .u8 c.toNat] w fun e w' => e = .returned (.bool (hd c ((L s).drop k))) ∧ Rc w' b s (k + (hd c ((L s).drop k)).toNat) v ∧ w.grownBy w' (some b) := by
  have c0 := h.c0; have c1 := h.c1; have f1 := h.f 1
  by_cases hp : k < s.size
  · rw [drop_cons s k hp]
    have hlt : decide ((k : Int) < s.size) = true := decide_eq_true (by omega)
    have he := u8_eq (a := s[k]) (b := c)
    cases hq : (s[k] == c) with
    | true =>
      rw [hq] at he
      have hr : hd c (s[k] :: (L s).drop (k + 1)) = true := hq
      rw [hr]
      have H := Lib.hid h; clear h hr hq
      go_enter Tryz.func85, Tryz.ntmps85
      go_wp2
      go_quiet (fail)
      go_wp2
      go_ret
      exact ⟨rfl, H.out.set1 (k + 1), (g_dN _ _ _).trans (g_set _ _ _ _)⟩
    | false =>
      rw [hq] at he
      have hr : hd c (s[k] :: (L s).drop (k + 1)) = false := hq
      rw [hr]
      have H := Lib.hid h; clear h hr hq
      go_enter Tryz.func85, Tryz.ntmps85
      go_wp2
      go_quiet (fail)
      go_wp2
      go_ret
      exact ⟨rfl, H.out, g_dN _ _ _⟩
  · have hlt : decide ((k : Int) < s.size) = false := decide_eq_false (by omega)
    rw [drop_nil s k hp]
    have H := Lib.hid h; clear h
    go_enter Tryz.func85, Tryz.ntmps85
    go_wp2
    go_quiet (fail)
    go_wp2
    go_ret
    exact ⟨rfl, H.out, g_dN _ _ _⟩

/-- Where the reader in block b stands. -/
def posOf (w : World) (b : Nat) : Nat := match w.cell? ⟨b, 1, none⟩ with | some v => (intOf v).toNat | none => 0
theorem Rc.pos {w : World} {b k : Nat} {s : ByteArray} {v : Value} (h : Rc w b s k v) : posOf w b = k := by
  unfold posOf
  rw [h.c1]
  simp [intOf]

set_option maxHeartbeats 1000000 in
theorem skip_any (b k : Nat) (s : ByteArray) (v : Value) (w : World) (h : Rc w b s k v) (hk : k ≤ s.size) (hs : s.size ≤ 140737488355328) :
    Calls Tryz.prog 125 #[rp b] w fun e w' => e = .returned (.tuple #[]) ∧ ∃ m, m ≤ s.size ∧ (L s).drop m = trimS ((L s).drop k) ∧ Rc w' b s m v ∧ w.grownBy w' (some b) := by
  go_enter Tryz.func125, Tryz.ntmps125
  go_wp2
  go_loopw [] (fun wr => ∃ m : Nat, m ≤ s.size ∧ trimS ((L s).drop m) = trimS ((L s).drop k) ∧ Rc wr b s m v ∧ w.grownBy wr (some b)) (fun wr => s.size - posOf wr b)
  case atStart => exact ⟨k, hk, rfl, h, World.grownBy.refl _ _⟩
  case round =>
    clear h
    obtain ⟨m, hm, ht, h, hg⟩ := hrel
    have c0 := h.c0; have c1 := h.c1; have f1 := h.f 1
    have hpos := h.pos
    by_cases hp : m < s.size
    · rw [drop_cons s m hp] at ht
      have hlt : decide ((m : Int) < s.size) = true := decide_eq_true (by omega)
      cases hsp : sp s[m] with
      | true =>
        rw [trimS_sp _ hsp] at ht
        have H := Lib.hid h; have HT := Lib.hid ht; have HS := Lib.hid hsp; have HP := Lib.hid hpos; have HG := Lib.hid hg; clear h ht hsp hpos hg
        go_wp2
        go_quiet (exact quietB (space_any s[m] _) HS.out)
        go_wp2
        go_roundw
        case rel => exact ⟨m + 1, by omega, HT.out, H.out.set1 (m + 1), (HG.out.trans (g_dN _ _ _)).trans (g_set _ _ _ _)⟩
        case measure =>
          rw [show posOf ((wr.drewN nq).setCell ⟨b, 1, none⟩ (.int .i64 (m + 1))) b = m + 1 from ((H.out.drew nq).set1 (m + 1)).pos, HP.out]
          omega
      | false =>
        rw [trimS_no _ hsp, ← drop_cons s m hp] at ht
        have H := Lib.hid h; have HT := Lib.hid ht; have HS := Lib.hid hsp; have HG := Lib.hid hg; clear h ht hsp hpos hg
        go_wp2
        go_quiet (exact quietB (space_any s[m] _) HS.out)
        go_wp2
        go_end0
        exact ⟨rfl, m, hm, HT.out, H.out, HG.out.trans (g_dN _ _ _)⟩
    · have hlt : decide ((m : Int) < s.size) = false := decide_eq_false (by omega)
      rw [drop_nil s m hp, trimS_nil] at ht
      have H := Lib.hid h; have HT := Lib.hid ht; have HG := Lib.hid hg; clear h ht hpos hg
      go_wp2
      go_quiet (fail)
      go_wp2
      go_end0
      exact ⟨rfl, m, hm, by rw [← HT.out, drop_nil s m hp], H.out, HG.out.trans (g_dN _ _ _)⟩

end Go.Proofs.YtenmlpfjeohkiaaGreatDoor.To

namespace Go.Proofs.YtenmlpfjeohkiaaGreatDoor.To
set_option maxRecDepth 100000
set_option linter.unusedSimpArgs false
set_option linter.unusedVariables false
open Go.RowKit Ba Fm Fo Tm
theorem closes_any (c : UInt8) (w : World) : Calls Tryz.prog 84 #[.int .u8 c.toNat] w fun e w' => e = .returned (.bool (gt c)) ∧ w = w' := by
  have e62 : ((c.toNat : Int) == 62) = (c == 62) := u8_eq (b := 62)
  obtain ⟨q, hq⟩ : ∃ q, (c == 62) = q := ⟨_, rfl⟩
  rw [hq] at e62
  have hg : gt c = q := hq
  have HG := Lib.hid hg; clear hg hq
  go_enter Tryz.func84, Tryz.ntmps84
  go_wp2
  go_ret
  exact ⟨ret_bool HG.out.symm, rfl⟩

theorem endsValue_any (c : UInt8) (w : World) : Calls Tryz.prog 118 #[.int .u8 c.toNat] w fun e w' => e = .returned (.bool (ev c)) ∧ w = w' := by
  have e0 : ((c.toNat : Int) == 62) = (c == 62) := u8_eq (b := 62)
  cases hq : (c == 62) with
  | true =>
    rw [hq] at e0
    have hg : ev c = true := by unfold ev; rw [hq]; rfl
    have HG := Lib.hid hg; clear hg hq
    go_enter Tryz.func118, Tryz.ntmps118
    go_wp2
    go_ret
    exact ⟨ret_bool HG.out.symm, rfl⟩
  | false =>
    rw [hq] at e0
    have hg : ev c = sp c := by unfold ev; rw [hq]; rfl
    have HG := Lib.hid hg; clear hg hq
    go_enter Tryz.func118, Tryz.ntmps118
    go_wp2_with (go_at_call 107; refine (space_any c _).mono ?_; rintro e w' ⟨rfl, rfl⟩)
    go_ret
    exact ⟨ret_bool HG.out.symm, rfl⟩

theorem endsName_any (c : UInt8) (w : World) : Calls Tryz.prog 104 #[.int .u8 c.toNat] w fun e w' => e = .returned (.bool (en c)) ∧ w = w' := by
  have e0 : ((c.toNat : Int) == 47) = (c == 47) := u8_eq (b := 47)
  cases hq : (c == 47) with
  | true =>
    rw [hq] at e0
    have hg : en c = true := by unfold en; rw [hq]; rfl
    have HG := Lib.hid hg; clear hg hq
    go_enter Tryz.func104, Tryz.ntmps104
    go_wp2
    go_ret
    exact ⟨ret_bool HG.out.symm, rfl⟩
  | false =>
    rw [hq] at e0
    have hg : en c = ev c := by unfold en; rw [hq]; rfl
    have HG := Lib.hid hg; clear hg hq
    go_enter Tryz.func104, Tryz.ntmps104
    go_wp2_with (go_at_call 118; refine (endsValue_any c _).mono ?_; rintro e w' ⟨rfl, rfl⟩)
    go_ret
    exact ⟨ret_bool HG.out.symm, rfl⟩

theorem endsAttr_any (c : UInt8) (w : World) : Calls Tryz.prog 124 #[.int .u8 c.toNat] w fun e w' => e = .returned (.bool (ea c)) ∧ w = w' := by
  have e0 : ((c.toNat : Int) == 61) = (c == 61) := u8_eq (b := 61)
  cases hq : (c == 61) with
  | true =>
    rw [hq] at e0
    have hg : ea c = true := by unfold ea; rw [hq]; rfl
    have HG := Lib.hid hg; clear hg hq
    go_enter Tryz.func124, Tryz.ntmps124
    go_wp2
    go_ret
    exact ⟨ret_bool HG.out.symm, rfl⟩
  | false =>
    rw [hq] at e0
    have hg : ea c = en c := by unfold ea; rw [hq]; rfl
    have HG := Lib.hid hg; clear hg hq
    go_enter Tryz.func124, Tryz.ntmps124
    go_wp2_with (go_at_call 104; refine (endsName_any c _).mono ?_; rintro e w' ⟨rfl, rfl⟩)
    go_ret
    exact ⟨ret_bool HG.out.symm, rfl⟩

theorem quote_any (c q : UInt8) (g : Nat) (w : World) (h : w.cell? ⟨g, 0, none⟩ = some (.int .u8 q.toNat)) :
    Calls Tryz.prog 128 #[.int .u8 c.toNat, .pointer (some ⟨g, 0, none⟩)] w fun e w' => e = .returned (.bool (is q c)) ∧ w = w' := by
  have e0 : ((c.toNat : Int) == (q.toNat : Int)) = is q c := u8_eq
  obtain ⟨u, hu⟩ : ∃ u, is q c = u := ⟨_, rfl⟩
  rw [hu] at e0
  have HU := Lib.hid hu; clear hu
  go_enter Tryz.func128, Tryz.ntmps128
  go_wp2
  go_ret
  exact ⟨ret_bool HU.out.symm, rfl⟩

theorem pre_yes (s t : ByteArray) : ((s.extract 0 t.size).toList == t.toList) = pre (L t) (L s) := by
  rw [eq_of_toList]
  unfold pre
  refine decide_eq_decide.2 ?_
  rw [size_L]
  constructor
  · intro e
    have := congrArg L e
    rwa [L_extract, Nat.sub_zero, List.drop_zero] at this
  · intro e
    apply L_inj
    rwa [L_extract, Nat.sub_zero, List.drop_zero]
theorem pre_short (s t : ByteArray) (h : ¬ t.size ≤ s.size) : pre (L t) (L s) = false := by
  unfold pre
  refine decide_eq_false fun e => ?_
  have := congrArg List.length e
  rw [List.length_take, size_L, size_L] at this
  omega
set_option maxHeartbeats 1000000 in
theorem starts_any (s t : ByteArray) (w : World) (hs : s.size ≤ 140737488355328) (ht : t.size ≤ 140737488355328) :
    Calls Tryz.prog 112 #[.string s, .string t] w fun e w' => e = .returned (.bool (pre (L t) (L s))) ∧ w = w' := by
  by_cases hp : t.size ≤ s.size
  · have hd : decide ((t.size : Int) ≤ s.size) = true := decide_eq_true (by omega)
    have he := pre_yes s t
    obtain ⟨q, hq⟩ : ∃ q, pre (L t) (L s) = q := ⟨_, rfl⟩
    rw [hq] at he
    have HQ := Lib.hid hq; clear hq
    go_enter Tryz.func112, Tryz.ntmps112
    go_wp2
    go_ret
    exact ⟨ret_bool HQ.out.symm, rfl⟩
  · have hd : decide ((t.size : Int) ≤ s.size) = false := decide_eq_false (by omega)
    have hq := pre_short s t hp
    have HQ := Lib.hid hq; clear hq
    go_enter Tryz.func112, Tryz.ntmps112
    go_wp2
    go_ret
    exact ⟨ret_bool HQ.out.symm, rfl⟩

theorem by1_at (q : UInt8 → Bool) (s : ByteArray) (k : Nat) (h : k < s.size) (b : Bool) (hb : q s[k] = b) : by1 q ((L s).drop k) = b := by
  rw [drop_cons s k h]
  exact hb
theorem lead_at {p : List UInt8 → Bool} {s : ByteArray} {k : Nat} (h : k < s.size) (hp : p ((L s).drop k) = false) : lead p ((L s).drop k) = s[k] :: lead p ((L s).drop (k + 1)) ∧ trail p ((L s).drop k) = trail p ((L s).drop (k + 1)) := by
  rw [drop_cons s k h] at hp ⊢
  exact ⟨lead_no hp, trail_no hp⟩
theorem lead_end {p : List UInt8 → Bool} {s : ByteArray} {k : Nat} (hp : p ((L s).drop k) = true ∨ ¬ k < s.size) : lead p ((L s).drop k) = [] ∧ trail p ((L s).drop k) = (L s).drop k := by
  by_cases h : k < s.size
  · have hp := hp.resolve_right (by omega)
    rw [drop_cons s k h] at hp ⊢
    exact ⟨lead_yes hp, trail_yes hp⟩
  · rw [drop_nil s k h]
    exact ⟨rfl, rfl⟩
/-- How far a search has come. -/
def Far (p : List UInt8 → Bool) (s : ByteArray) (k m : Nat) : Prop := k ≤ m ∧ m ≤ s.size ∧ lead p ((L s).drop k) = ((L s).drop k).take (m - k) ++ lead p ((L s).drop m) ∧ trail p ((L s).drop k) = trail p ((L s).drop m)
theorem Far.start {p : List UInt8 → Bool} {s : ByteArray} {k : Nat} (h : k ≤ s.size) : Far p s k k := ⟨Nat.le_refl _, h, by simp, rfl⟩
theorem Far.next {p : List UInt8 → Bool} {s : ByteArray} {k m : Nat} (h : Far p s k m) (hm : m < s.size) (hp : p ((L s).drop m) = false) : Far p s k (m + 1) := by
  obtain ⟨h1, h2, h3, h4⟩ := h
  obtain ⟨a1, a2⟩ := lead_at hm hp
  refine ⟨by omega, by omega, ?_, h4.trans a2⟩
  rw [h3, a1]
  have e : ((L s).drop k).take (m + 1 - k) = ((L s).drop k).take (m - k) ++ [s[m]] := by
    rw [show m + 1 - k = (m - k) + 1 from by omega, List.take_succ_eq_append_getElem (by rw [List.length_drop, size_L]; omega)]
    congr 2
    rw [List.getElem_drop]
    simp [show k + (m - k) = m from by omega]
    rfl
  rw [e, List.append_assoc]
  rfl
/-- Where a search ends. -/
theorem Far.done {p : List UInt8 → Bool} {s : ByteArray} {k m : Nat} (h : Far p s k m) (hp : p ((L s).drop m) = true ∨ ¬ m < s.size) : s.extract k m = B (lead p ((L s).drop k)) ∧ (L s).drop m = trail p ((L s).drop k) := by
  obtain ⟨h1, h2, h3, h4⟩ := h
  obtain ⟨a1, a2⟩ := lead_end hp
  refine ⟨B_of ?_, (h4.trans a2).symm⟩
  rw [L_extract, h3, a1, List.append_nil]

set_option maxHeartbeats 1000000 in
theorem upTo_gt (b k : Nat) (s : ByteArray) (v : Value) (w : World) (h : Rc w b s k v) (hk : k ≤ s.size) (hs : s.size ≤ 140737488355328) :
    Calls Tryz.prog 83 #[rp b, .func (.func 84) #[] #[]] w fun e w' => e = .returned (.string (B (upTo (gt) ((L s).drop k)))) ∧ ∃ m, m ≤ s.size ∧ (L s).drop m = from_ (gt) ((L s).drop k) ∧ Rc w' b s m v ∧ w.grownBy w' (some b) := by
  have c1 := h.c1
  go_enter Tryz.func83, Tryz.ntmps83
  go_wp2
  clear c1
  go_loopw [] (fun wr => ∃ m : Nat, Far (by1 (gt)) s k m ∧ Rc wr b s m v ∧ w.grownBy wr (some b)) (fun wr => s.size - posOf wr b)
  case atStart => exact ⟨k, .start hk, h, World.grownBy.refl _ _⟩
  case round =>
    clear h
    obtain ⟨m, hf, h, hg⟩ := hrel
    have hm := hf.2.1
    have hkm := hf.1
    have c0 := h.c0; have c1 := h.c1; have f1 := h.f 1
    have hpos := h.pos
    
    by_cases hp : m < s.size
    · have hlt : decide ((m : Int) < s.size) = true := decide_eq_true (by omega)
      cases hsp : (gt) s[m] with
      | false =>
        have hf := hf.next hp (by1_at _ s m hp false hsp)
        have H := Lib.hid h; have HF := Lib.hid hf; have HS := Lib.hid hsp; have HP := Lib.hid hpos; have HG := Lib.hid hg; clear h hf hsp hpos hg
        go_wp2
        go_quiet (exact quietB (closes_any s[m] _) HS.out)
        go_wp2
        go_roundw
        case rel => exact ⟨m + 1, HF.out, H.out.set1 (m + 1), (HG.out.trans (g_dN _ _ _)).trans (g_set _ _ _ _)⟩
        case measure =>
          rw [show posOf ((wr.drewN nq).setCell ⟨b, 1, none⟩ (.int .i64 (m + 1))) b = m + 1 from ((H.out.drew nq).set1 (m + 1)).pos, HP.out]
          omega
      | true =>
        have hd := hf.done (.inl (by1_at _ s m hp true hsp))
        have H := Lib.hid h; have HD := Lib.hid hd; have HS := Lib.hid hsp; have HG := Lib.hid hg; clear h hf hsp hpos hg hd
        go_wp2
        go_quiet (exact quietB (closes_any s[m] _) HS.out)
        go_wp2
        go_quiet (fail)
        go_wp2
        go_ret
        exact ⟨ret_str HD.out.1, m, hm, HD.out.2, H.out, (HG.out.trans (g_dN _ _ _)).trans (g_dN _ _ _)⟩
    · have hlt : decide ((m : Int) < s.size) = false := decide_eq_false (by omega)
      have hd := hf.done (.inr hp)
      have H := Lib.hid h; have HD := Lib.hid hd; have HG := Lib.hid hg; clear h hf hpos hg hd
      go_wp2
      go_quiet (fail)
      go_wp2
      go_quiet (fail)
      go_wp2
      go_ret
      exact ⟨ret_str HD.out.1, m, hm, HD.out.2, H.out, (HG.out.trans (g_dN _ _ _)).trans (g_dN _ _ _)⟩

set_option maxHeartbeats 1000000 in
theorem upTo_en (b k : Nat) (s : ByteArray) (v : Value) (w : World) (h : Rc w b s k v) (hk : k ≤ s.size) (hs : s.size ≤ 140737488355328) :
    Calls Tryz.prog 83 #[rp b, .func (.func 104) #[] #[]] w fun e w' => e = .returned (.string (B (upTo (en) ((L s).drop k)))) ∧ ∃ m, m ≤ s.size ∧ (L s).drop m = from_ (en) ((L s).drop k) ∧ Rc w' b s m v ∧ w.grownBy w' (some b) := by
  have c1 := h.c1
  go_enter Tryz.func83, Tryz.ntmps83
  go_wp2
  clear c1
  go_loopw [] (fun wr => ∃ m : Nat, Far (by1 (en)) s k m ∧ Rc wr b s m v ∧ w.grownBy wr (some b)) (fun wr => s.size - posOf wr b)
  case atStart => exact ⟨k, .start hk, h, World.grownBy.refl _ _⟩
  case round =>
    clear h
    obtain ⟨m, hf, h, hg⟩ := hrel
    have hm := hf.2.1
    have hkm := hf.1
    have c0 := h.c0; have c1 := h.c1; have f1 := h.f 1
    have hpos := h.pos
    
    by_cases hp : m < s.size
    · have hlt : decide ((m : Int) < s.size) = true := decide_eq_true (by omega)
      cases hsp : (en) s[m] with
      | false =>
        have hf := hf.next hp (by1_at _ s m hp false hsp)
        have H := Lib.hid h; have HF := Lib.hid hf; have HS := Lib.hid hsp; have HP := Lib.hid hpos; have HG := Lib.hid hg; clear h hf hsp hpos hg
        go_wp2
        go_quiet (exact quietB (endsName_any s[m] _) HS.out)
        go_wp2
        go_roundw
        case rel => exact ⟨m + 1, HF.out, H.out.set1 (m + 1), (HG.out.trans (g_dN _ _ _)).trans (g_set _ _ _ _)⟩
        case measure =>
          rw [show posOf ((wr.drewN nq).setCell ⟨b, 1, none⟩ (.int .i64 (m + 1))) b = m + 1 from ((H.out.drew nq).set1 (m + 1)).pos, HP.out]
          omega
      | true =>
        have hd := hf.done (.inl (by1_at _ s m hp true hsp))
        have H := Lib.hid h; have HD := Lib.hid hd; have HS := Lib.hid hsp; have HG := Lib.hid hg; clear h hf hsp hpos hg hd
        go_wp2
        go_quiet (exact quietB (endsName_any s[m] _) HS.out)
        go_wp2
        go_quiet (fail)
        go_wp2
        go_ret
        exact ⟨ret_str HD.out.1, m, hm, HD.out.2, H.out, (HG.out.trans (g_dN _ _ _)).trans (g_dN _ _ _)⟩
    · have hlt : decide ((m : Int) < s.size) = false := decide_eq_false (by omega)
      have hd := hf.done (.inr hp)
      have H := Lib.hid h; have HD := Lib.hid hd; have HG := Lib.hid hg; clear h hf hpos hg hd
      go_wp2
      go_quiet (fail)
      go_wp2
      go_quiet (fail)
      go_wp2
      go_ret
      exact ⟨ret_str HD.out.1, m, hm, HD.out.2, H.out, (HG.out.trans (g_dN _ _ _)).trans (g_dN _ _ _)⟩

set_option maxHeartbeats 1000000 in
theorem upTo_ea (b k : Nat) (s : ByteArray) (v : Value) (w : World) (h : Rc w b s k v) (hk : k ≤ s.size) (hs : s.size ≤ 140737488355328) :
    Calls Tryz.prog 83 #[rp b, .func (.func 124) #[] #[]] w fun e w' => e = .returned (.string (B (upTo (ea) ((L s).drop k)))) ∧ ∃ m, m ≤ s.size ∧ (L s).drop m = from_ (ea) ((L s).drop k) ∧ Rc w' b s m v ∧ w.grownBy w' (some b) := by
  have c1 := h.c1
  go_enter Tryz.func83, Tryz.ntmps83
  go_wp2
  clear c1
  go_loopw [] (fun wr => ∃ m : Nat, Far (by1 (ea)) s k m ∧ Rc wr b s m v ∧ w.grownBy wr (some b)) (fun wr => s.size - posOf wr b)
  case atStart => exact ⟨k, .start hk, h, World.grownBy.refl _ _⟩
  case round =>
    clear h
    obtain ⟨m, hf, h, hg⟩ := hrel
    have hm := hf.2.1
    have hkm := hf.1
    have c0 := h.c0; have c1 := h.c1; have f1 := h.f 1
    have hpos := h.pos
    
    by_cases hp : m < s.size
    · have hlt : decide ((m : Int) < s.size) = true := decide_eq_true (by omega)
      cases hsp : (ea) s[m] with
      | false =>
        have hf := hf.next hp (by1_at _ s m hp false hsp)
        have H := Lib.hid h; have HF := Lib.hid hf; have HS := Lib.hid hsp; have HP := Lib.hid hpos; have HG := Lib.hid hg; clear h hf hsp hpos hg
        go_wp2
        go_quiet (exact quietB (endsAttr_any s[m] _) HS.out)
        go_wp2
        go_roundw
        case rel => exact ⟨m + 1, HF.out, H.out.set1 (m + 1), (HG.out.trans (g_dN _ _ _)).trans (g_set _ _ _ _)⟩
        case measure =>
          rw [show posOf ((wr.drewN nq).setCell ⟨b, 1, none⟩ (.int .i64 (m + 1))) b = m + 1 from ((H.out.drew nq).set1 (m + 1)).pos, HP.out]
          omega
      | true =>
        have hd := hf.done (.inl (by1_at _ s m hp true hsp))
        have H := Lib.hid h; have HD := Lib.hid hd; have HS := Lib.hid hsp; have HG := Lib.hid hg; clear h hf hsp hpos hg hd
        go_wp2
        go_quiet (exact quietB (endsAttr_any s[m] _) HS.out)
        go_wp2
        go_quiet (fail)
        go_wp2
        go_ret
        exact ⟨ret_str HD.out.1, m, hm, HD.out.2, H.out, (HG.out.trans (g_dN _ _ _)).trans (g_dN _ _ _)⟩
    · have hlt : decide ((m : Int) < s.size) = false := decide_eq_false (by omega)
      have hd := hf.done (.inr hp)
      have H := Lib.hid h; have HD := Lib.hid hd; have HG := Lib.hid hg; clear h hf hpos hg hd
      go_wp2
      go_quiet (fail)
      go_wp2
      go_quiet (fail)
      go_wp2
      go_ret
      exact ⟨ret_str HD.out.1, m, hm, HD.out.2, H.out, (HG.out.trans (g_dN _ _ _)).trans (g_dN _ _ _)⟩

set_option maxHeartbeats 1000000 in
theorem upTo_ev (b k : Nat) (s : ByteArray) (v : Value) (w : World) (h : Rc w b s k v) (hk : k ≤ s.size) (hs : s.size ≤ 140737488355328) :
    Calls Tryz.prog 83 #[rp b, .func (.func 118) #[] #[]] w fun e w' => e = .returned (.string (B (upTo (ev) ((L s).drop k)))) ∧ ∃ m, m ≤ s.size ∧ (L s).drop m = from_ (ev) ((L s).drop k) ∧ Rc w' b s m v ∧ w.grownBy w' (some b) := by
  have c1 := h.c1
  go_enter Tryz.func83, Tryz.ntmps83
  go_wp2
  clear c1
  go_loopw [] (fun wr => ∃ m : Nat, Far (by1 (ev)) s k m ∧ Rc wr b s m v ∧ w.grownBy wr (some b)) (fun wr => s.size - posOf wr b)
  case atStart => exact ⟨k, .start hk, h, World.grownBy.refl _ _⟩
  case round =>
    clear h
    obtain ⟨m, hf, h, hg⟩ := hrel
    have hm := hf.2.1
    have hkm := hf.1
    have c0 := h.c0; have c1 := h.c1; have f1 := h.f 1
    have hpos := h.pos
    
    by_cases hp : m < s.size
    · have hlt : decide ((m : Int) < s.size) = true := decide_eq_true (by omega)
      cases hsp : (ev) s[m] with
      | false =>
        have hf := hf.next hp (by1_at _ s m hp false hsp)
        have H := Lib.hid h; have HF := Lib.hid hf; have HS := Lib.hid hsp; have HP := Lib.hid hpos; have HG := Lib.hid hg; clear h hf hsp hpos hg
        go_wp2
        go_quiet (exact quietB (endsValue_any s[m] _) HS.out)
        go_wp2
        go_roundw
        case rel => exact ⟨m + 1, HF.out, H.out.set1 (m + 1), (HG.out.trans (g_dN _ _ _)).trans (g_set _ _ _ _)⟩
        case measure =>
          rw [show posOf ((wr.drewN nq).setCell ⟨b, 1, none⟩ (.int .i64 (m + 1))) b = m + 1 from ((H.out.drew nq).set1 (m + 1)).pos, HP.out]
          omega
      | true =>
        have hd := hf.done (.inl (by1_at _ s m hp true hsp))
        have H := Lib.hid h; have HD := Lib.hid hd; have HS := Lib.hid hsp; have HG := Lib.hid hg; clear h hf hsp hpos hg hd
        go_wp2
        go_quiet (exact quietB (endsValue_any s[m] _) HS.out)
        go_wp2
        go_quiet (fail)
        go_wp2
        go_ret
        exact ⟨ret_str HD.out.1, m, hm, HD.out.2, H.out, (HG.out.trans (g_dN _ _ _)).trans (g_dN _ _ _)⟩
    · have hlt : decide ((m : Int) < s.size) = false := decide_eq_false (by omega)
      have hd := hf.done (.inr hp)
      have H := Lib.hid h; have HD := Lib.hid hd; have HG := Lib.hid hg; clear h hf hpos hg hd
      go_wp2
      go_quiet (fail)
      go_wp2
      go_quiet (fail)
      go_wp2
      go_ret
      exact ⟨ret_str HD.out.1, m, hm, HD.out.2, H.out, (HG.out.trans (g_dN _ _ _)).trans (g_dN _ _ _)⟩

set_option maxHeartbeats 1000000 in
theorem upTo_is (b k : Nat) (s : ByteArray) (v : Value) (w : World) (h : Rc w b s k v) (hk : k ≤ s.size) (hs : s.size ≤ 140737488355328) (q : UInt8) (g : Nat) (hgb : g ≠ b) (hgl : g < w.heap.size) (hq : w.cell? ⟨g, 0, none⟩ = some (.int .u8 q.toNat)) :
    Calls Tryz.prog 83 #[rp b, .func (.func 128) #[] #[.pointer (some ⟨g, 0, none⟩)]] w fun e w' => e = .returned (.string (B (upTo (is q) ((L s).drop k)))) ∧ ∃ m, m ≤ s.size ∧ (L s).drop m = from_ (is q) ((L s).drop k) ∧ Rc w' b s m v ∧ w.grownBy w' (some b) := by
  have c1 := h.c1
  go_enter Tryz.func83, Tryz.ntmps83
  go_wp2
  clear c1
  go_loopw [] (fun wr => ∃ m : Nat, Far (by1 (is q)) s k m ∧ Rc wr b s m v ∧ w.grownBy wr (some b)) (fun wr => s.size - posOf wr b)
  case atStart => exact ⟨k, .start hk, h, World.grownBy.refl _ _⟩
  case round =>
    clear h
    obtain ⟨m, hf, h, hg⟩ := hrel
    have hm := hf.2.1
    have hkm := hf.1
    have c0 := h.c0; have c1 := h.c1; have f1 := h.f 1
    have hpos := h.pos
    have hq : wr.cell? ⟨g, 0, none⟩ = some (.int .u8 q.toNat) := hg.cell hq (by simpa using hgb)
    by_cases hp : m < s.size
    · have hlt : decide ((m : Int) < s.size) = true := decide_eq_true (by omega)
      cases hsp : (is q) s[m] with
      | false =>
        have hf := hf.next hp (by1_at _ s m hp false hsp)
        have H := Lib.hid h; have HF := Lib.hid hf; have HS := Lib.hid hsp; have HP := Lib.hid hpos; have HG := Lib.hid hg; clear h hf hsp hpos hg
        go_wp2
        go_quiet (exact quietB (quote_any s[m] q g _ hq) HS.out)
        go_wp2
        go_roundw
        case rel => exact ⟨m + 1, HF.out, H.out.set1 (m + 1), (HG.out.trans (g_dN _ _ _)).trans (g_set _ _ _ _)⟩
        case measure =>
          rw [show posOf ((wr.drewN nq).setCell ⟨b, 1, none⟩ (.int .i64 (m + 1))) b = m + 1 from ((H.out.drew nq).set1 (m + 1)).pos, HP.out]
          omega
      | true =>
        have hd := hf.done (.inl (by1_at _ s m hp true hsp))
        have H := Lib.hid h; have HD := Lib.hid hd; have HS := Lib.hid hsp; have HG := Lib.hid hg; clear h hf hsp hpos hg hd
        go_wp2
        go_quiet (exact quietB (quote_any s[m] q g _ hq) HS.out)
        go_wp2
        go_quiet (fail)
        go_wp2
        go_ret
        exact ⟨ret_str HD.out.1, m, hm, HD.out.2, H.out, (HG.out.trans (g_dN _ _ _)).trans (g_dN _ _ _)⟩
    · have hlt : decide ((m : Int) < s.size) = false := decide_eq_false (by omega)
      have hd := hf.done (.inr hp)
      have H := Lib.hid h; have HD := Lib.hid hd; have HG := Lib.hid hg; clear h hf hpos hg hd
      go_wp2
      go_quiet (fail)
      go_wp2
      go_quiet (fail)
      go_wp2
      go_ret
      exact ⟨ret_str HD.out.1, m, hm, HD.out.2, H.out, (HG.out.trans (g_dN _ _ _)).trans (g_dN _ _ _)⟩

end Go.Proofs.YtenmlpfjeohkiaaGreatDoor.To

namespace Go.Proofs.YtenmlpfjeohkiaaGreatDoor.To
set_option maxRecDepth 100000
set_option linter.unusedSimpArgs false
set_option linter.unusedVariables false
open Go.RowKit Ba Fm Fo Tm
open Ro (At acells len_acells below_new)
open Re (Tab)
theorem g_below {w0 w w' : World} {row : Option Nat} (h : w0.grownBy w row) (hb : Below w.heap.size w w') : w0.grownBy w' row :=
  ⟨hb.os.trans h.os, hb.tape.trans h.tape, hb.output.trans h.output, Nat.le_trans h.size hb.size, fun i hi hne => (hb.block i (Nat.lt_of_lt_of_le hi h.size)).trans (h.block i hi hne)⟩
theorem g_alloc (w : World) (o : Obj) (row : Option Nat) : w.grownBy (w.alloc o) row := World.grownBy_alloc w o row
theorem tab_kept {w w' : World} {b : Nat} (h : Tab w) (hg : w.grownBy w' (some b)) (hb : 0 < b) : Tab w' := by
  refine ⟨fun j v hv => ?_, Nat.lt_of_lt_of_le h.2 hg.size⟩
  exact hg.cell (a := ⟨0, 0 + j, none⟩) (h.1 j v hv) (by simp; omega)

theorem pass1 (b k : Nat) (s : ByteArray) (v : Value) (c : UInt8) (n : Int) (q : Bool) (w : World) (h : Rc w b s k v) (hk : k ≤ s.size) (hs : s.size ≤ 140737488355328) (hn : (c.toNat : Int) = n) (hq : hd c ((L s).drop k) = q) :
    Calls Tryz.prog 85 #[rp b, .int .u8 n] w fun e w' => e = .returned (.bool q) ∧ Rc w' b s (k + q.toNat) v ∧ w.grownBy w' (some b) := by
  have := pass_any b k s v c w h hk hs
  rwa [hn, hq] at this
theorem hd_drop {c : UInt8} {s : ByteArray} {k : Nat} (hk : k ≤ s.size) {q : Bool} (h : hd c ((L s).drop k) = q) : k + q.toNat ≤ s.size ∧ (L s).drop (k + q.toNat) = if q = true then ((L s).drop k).drop 1 else (L s).drop k := by
  cases q with
  | false => exact ⟨hk, rfl⟩
  | true =>
    refine ⟨?_, by simp⟩
    by_cases hp : k < s.size
    · show k + 1 ≤ _
      omega
    · rw [drop_nil s k hp] at h
      cases h
theorem hd_head {c : UInt8} {l : List UInt8} : hd c l = true ↔ l.head? = some c := by
  cases l with
  | nil => simp [hd, by1]
  | cons a r => simp [hd, by1, is]
theorem hd_no {c : UInt8} {l : List UInt8} (h : hd c l = false) : ¬ l.head? = some c := fun e => by rw [hd_head.2 e] at h; cases h
theorem from_drop {q : UInt8} {l : List UInt8} : (if hd q (from_ (is q) l) = true then (from_ (is q) l).drop 1 else from_ (is q) l) = (from_ (is q) l).drop 1 := by
  show (if hd q (trail (by1 (is q)) l) = true then (trail (by1 (is q)) l).drop 1 else trail (by1 (is q)) l) = (trail (by1 (is q)) l).drop 1
  rcases trail_cases (by1 (is q)) l with h | h
  · rw [h]; rfl
  · rw [if_pos (show hd q (trail (by1 (is q)) l) = true from h)]

set_option maxHeartbeats 1000000 in
theorem quoted_any (b k : Nat) (s : ByteArray) (v : Value) (q : UInt8) (n : Int) (w : World) (h : Rc w b s k v) (hk : k ≤ s.size) (hs : s.size ≤ 140737488351232) (hn : (q.toNat : Int) = n) :
    Calls Tryz.prog 127 #[rp b, .int .u8 n] w fun e w' => e = .returned (.string (B (quo q ((L s).drop k)).1)) ∧ ∃ m, m ≤ s.size ∧ (L s).drop m = (quo q ((L s).drop k)).2 ∧ Rc w' b s m v ∧ w.grownBy w' (some b) := by
  have hmf : ∀ (fn : Fn) (first cap : Array Value) (w : World), (Instr.makeFunc fn first cap).run Tryz.prog w = .ok (.func fn first cap) w := fun _ _ _ _ => rfl
  subst hn
  obtain ⟨w1, hw1⟩ : ∃ w1, w.alloc (.cells #[.int .u8 q.toNat] 5) = w1 := ⟨_, rfl⟩
  have h1 : Rc w1 b s k v := hw1 ▸ h.below (below_new w _)
  have hg1 : w.grownBy w1 (some b) := hw1 ▸ g_alloc w _ _
  have hc1 : w1.cell? ⟨w.heap.size, 0, none⟩ = some (.int .u8 q.toNat) := by
    rw [← hw1, World.cell?_alloc_at _ _ _ _ rfl]; rfl
  have hz1 : w.heap.size < w1.heap.size := by rw [← hw1]; simp
  have hne : w.heap.size ≠ b := by have := h.lt; omega
  have HW := Lib.hid hw1; clear hw1
  go_enter Tryz.func127, Tryz.ntmps127
  go_wp2_with fail
  clear hmf
  rw [HW.out]
  refine (upTo_is b k s v w1 h1 hk (by omega) q _ hne hz1 hc1).mono ?_
  rintro e w2 ⟨rfl, m, hm, hd2, h2, hg2⟩
  have hc2 : w2.cell? ⟨w.heap.size, 0, none⟩ = some (.int .u8 q.toNat) := hg2.cell hc1 (by simpa using hne)
  obtain ⟨u, hu⟩ : ∃ u, hd q ((L s).drop m) = u := ⟨_, rfl⟩
  have hdr := hd_drop hm hu
  have HD := Lib.hid hdr; have H2 := Lib.hid hd2; have HU := Lib.hid hu; clear hdr hd2 hu
  go_wp2_with fail
  refine (pass1 b m s v q _ u w2 h2 hm (by omega) rfl HU.out).mono ?_
  rintro e w3 ⟨rfl, h3, hg3⟩
  go_wp2
  go_ret
  refine ⟨rfl, m + u.toNat, HD.out.1, ?_, h3, (hg1.trans hg2).trans hg3⟩
  rw [HD.out.2, ← HU.out, H2.out]
  exact from_drop

theorem value_34 {l : List UInt8} (h : hd 34 l = true) : value l = quo 34 (l.drop 1) := by unfold value; rw [if_pos (hd_head.1 h)]
theorem value_39 {l : List UInt8} (h : hd 34 l = false) (h' : hd 39 l = true) : value l = quo 39 (l.drop 1) := by unfold value; rw [if_neg (hd_no h), if_pos (hd_head.1 h')]
theorem value_no {l : List UInt8} (h : hd 34 l = false) (h' : hd 39 l = false) : value l = (upTo ev l, from_ ev l) := by unfold value; rw [if_neg (hd_no h), if_neg (hd_no h')]
set_option maxHeartbeats 1000000 in
theorem value_any (b k : Nat) (s : ByteArray) (v : Value) (w : World) (h : Rc w b s k v) (hk : k ≤ s.size) (hs : s.size ≤ 140737488351232) :
    Calls Tryz.prog 126 #[rp b] w fun e w' => e = .returned (.string (B (value ((L s).drop k)).1)) ∧ ∃ m, m ≤ s.size ∧ (L s).drop m = (value ((L s).drop k)).2 ∧ Rc w' b s m v ∧ w.grownBy w' (some b) := by
  have hs' : s.size ≤ 140737488355328 := by omega
  cases h34 : hd 34 ((L s).drop k) with
  | true =>
    have hv := value_34 h34
    have hdr := hd_drop hk h34
    rw [hv]
    rw [if_pos rfl] at hdr
    rw [← hdr.2]
    have HH := Lib.hid h34; have HD := Lib.hid hdr.1; clear h34 hv hdr
    go_enter Tryz.func126, Tryz.ntmps126
    go_wp2_with fail
    refine (pass1 b k s v 34 _ true w h hk hs' rfl HH.out).mono ?_
    rintro e w2 ⟨rfl, h2, hg2⟩
    go_wp2_with fail
    refine (quoted_any b _ s v 34 _ w2 h2 HD.out hs rfl).mono ?_
    rintro e w3 ⟨rfl, m, hm, hd3, h3, hg3⟩
    go_wp2
    go_ret
    exact ⟨rfl, m, hm, hd3, h3, hg2.trans hg3⟩
  | false =>
    cases h39 : hd 39 ((L s).drop k) with
    | true =>
      have hv := value_39 h34 h39
      have hdr := hd_drop hk h39
      rw [hv]
      rw [if_pos rfl] at hdr
      rw [← hdr.2]
      have HH := Lib.hid h34; have HQ := Lib.hid h39; have HD := Lib.hid hdr.1; clear h34 h39 hv hdr
      go_enter Tryz.func126, Tryz.ntmps126
      go_wp2_with fail
      refine (pass1 b k s v 34 _ false w h hk hs' rfl HH.out).mono ?_
      rintro e w2 ⟨rfl, h2, hg2⟩
      go_wp2_with fail
      refine (pass1 b k s v 39 _ true w2 h2 hk hs' rfl HQ.out).mono ?_
      rintro e w4 ⟨rfl, h4, hg4⟩
      go_wp2_with fail
      refine (quoted_any b _ s v 39 _ w4 h4 HD.out hs rfl).mono ?_
      rintro e w3 ⟨rfl, m, hm, hd3, h3, hg3⟩
      go_wp2
      go_ret
      exact ⟨rfl, m, hm, hd3, h3, (hg2.trans hg4).trans hg3⟩
    | false =>
      have hv := value_no h34 h39
      rw [hv]
      have HH := Lib.hid h34; have HQ := Lib.hid h39; clear h34 h39 hv
      go_enter Tryz.func126, Tryz.ntmps126
      go_wp2_with fail
      refine (pass1 b k s v 34 _ false w h hk hs' rfl HH.out).mono ?_
      rintro e w2 ⟨rfl, h2, hg2⟩
      go_wp2_with fail
      refine (pass1 b k s v 39 _ false w2 h2 hk hs' rfl HQ.out).mono ?_
      rintro e w4 ⟨rfl, h4, hg4⟩
      go_wp2_with fail
      refine (upTo_ev b _ s v w4 h4 hk hs').mono ?_
      rintro e w3 ⟨rfl, m, hm, hd3, h3, hg3⟩
      go_wp2
      go_ret
      exact ⟨rfl, m, hm, hd3, h3, (hg2.trans hg4).trans hg3⟩

end Go.Proofs.YtenmlpfjeohkiaaGreatDoor.To

namespace Go.Proofs.YtenmlpfjeohkiaaGreatDoor.To
set_option maxRecDepth 100000
set_option linter.unusedSimpArgs false
set_option linter.unusedVariables false
open Go.RowKit Ba Fm Fo Tm
open Ro (At acells len_acells below_new)
open Re (Tab)
open Rm (dec)
theorem len_value1 (l : List UInt8) : (value l).1.length ≤ l.length := by
  unfold value quo
  have h1 := len_lead (by1 (is 34)) (l.drop 1)
  have h2 := len_lead (by1 (is 39)) (l.drop 1)
  have h3 := len_lead (by1 ev) l
  rw [List.length_drop] at h1 h2
  split
  · show (lead _ _).length ≤ _
    omega
  · split
    · show (lead _ _).length ≤ _
      omega
    · exact h3
/-- Block g is an attribute in a box. -/
def Bx (w : World) (g : Nat) (x y : ByteArray) : Prop := w.heap[g]? = some (.cells #[.string x, .string y] 46)
theorem Bx.c0 {w : World} {g : Nat} {x y : ByteArray} (h : Bx w g x y) : w.cell? ⟨g, 0, none⟩ = some (.string x) := by rw [cell_of_row w g 0 _ _ _ h]; rfl
theorem Bx.c1 {w : World} {g : Nat} {x y : ByteArray} (h : Bx w g x y) : w.cell? ⟨g, 1, none⟩ = some (.string y) := by rw [cell_of_row w g 1 _ _ _ h]; rfl
theorem Bx.f {w : World} {g : Nat} {x y : ByteArray} (h : Bx w g x y) (j : Nat) : w.frozen? ⟨g, j, none⟩ = false := by
  unfold Bx at h
  simp [World.frozen?, h]
theorem Bx.lt {w : World} {g : Nat} {x y : ByteArray} (h : Bx w g x y) : g < w.heap.size := (Array.getElem?_eq_some_iff.1 h).1
theorem Bx.set0 {w : World} {g : Nat} {x y : ByteArray} (h : Bx w g x y) (u : ByteArray) : Bx (w.setCell ⟨g, 0, none⟩ (.string u)) g u y := by
  unfold Bx at h ⊢
  simp [World.setCell, Array.getElem?_modify, h]
theorem Bx.set1 {w : World} {g : Nat} {x y : ByteArray} (h : Bx w g x y) (u : ByteArray) : Bx (w.setCell ⟨g, 1, none⟩ (.string u)) g x u := by
  unfold Bx at h ⊢
  simp [World.setCell, Array.getElem?_modify, h]
theorem Bx.kept {w w' : World} {g b : Nat} {x y : ByteArray} (h : Bx w g x y) (hg : w.grownBy w' (some b)) (hne : g ≠ b) : Bx w' g x y := (hg.block g h.lt (by simpa using hne)).trans h
theorem Bx.below {w w' : World} {g : Nat} {x y : ByteArray} (h : Bx w g x y) (hb : Below w.heap.size w w') : Bx w' g x y := (hb.block g h.lt).trans h
theorem Bx.new (w : World) (x y : ByteArray) : Bx (w.alloc (.cells #[.string x, .string y] 46)) w.heap.size x y := by
  exact (MapKept.heap_alloc w _).1
theorem Rc.other {w : World} {b k g j : Nat} {s : ByteArray} {v : Value} (h : Rc w b s k v) (hne : g ≠ b) (u : Value) : Rc (w.setCell ⟨g, j, none⟩ u) b s k v := ((g_set w g j u).block b h.lt (by simpa using Ne.symm hne)).trans h

theorem Bx.other {w : World} {g b j : Nat} {x y : ByteArray} (h : Bx w g x y) (hne : g ≠ b) (u : Value) : Bx (w.setCell ⟨b, j, none⟩ u) g x y := h.kept (g_set w b j u) hne
/-- Where a search has come to, and what it passed. -/
theorem span_of {p : List UInt8 → Bool} {s : ByteArray} {k m : Nat} (hk : k ≤ s.size) (hm : m ≤ s.size) (h : (L s).drop m = trail p ((L s).drop k)) : k ≤ m ∧ ((L s).drop k).take (m - k) = lead p ((L s).drop k) := by
  have h1 := congrArg List.length (lead_trail p ((L s).drop k))
  have h2 := congrArg List.length h
  rw [List.length_append, List.length_drop, size_L] at h1
  rw [List.length_drop, size_L] at h2
  refine ⟨by omega, ?_⟩
  have h3 := lead_trail p ((L s).drop k)
  rw [show m - k = (lead p ((L s).drop k)).length from by omega]
  have h4 : (lead p ((L s).drop k) ++ trail p ((L s).drop k)).take (lead p ((L s).drop k)).length = lead p ((L s).drop k) := by simp
  rwa [h3] at h4
theorem span_one {p : List UInt8 → Bool} {s : ByteArray} {k m : Nat} (hk : k < s.size) (hm : m ≤ s.size) (h : (L s).drop m = trail p ((L s).drop (k + 1))) : k + 1 ≤ m ∧ L (s.extract k m) = s[k] :: lead p ((L s).drop (k + 1)) := by
  obtain ⟨h1, h2⟩ := span_of (by omega) hm h
  refine ⟨h1, ?_⟩
  rw [L_extract, drop_cons s k hk, show m - k = (m - (k + 1)) + 1 from by omega, List.take_succ_cons, h2]

theorem attr_eq (c : UInt8) (r : List UInt8) : attr c r = (⟨B (lowL (c :: upTo ea r)), B (valued (trimS (from_ ea r))).1⟩, (valued (trimS (from_ ea r))).2) := rfl
theorem valued_yes {l : List UInt8} (h : hd 61 l = true) : valued l = (dec (value (trimS (l.drop 1))).1, (value (trimS (l.drop 1))).2) := by unfold valued; rw [if_pos (hd_head.1 h)]
theorem valued_no {l : List UInt8} (h : hd 61 l = false) : valued l = ([], l) := by unfold valued; rw [if_neg (hd_no h)]

theorem box_first (w3 w4 : World) (hb : Below (w3.alloc (.cells #[.string ⟨#[]⟩, .string ⟨#[]⟩] 46)).drew.heap.size (w3.alloc (.cells #[.string ⟨#[]⟩, .string ⟨#[]⟩] 46)).drew w4) :
    Bx w4 w3.heap.size ⟨#[]⟩ ⟨#[]⟩ ∧ Below w3.heap.size w3 w4 := by
  refine ⟨(show Bx (w3.alloc (.cells #[.string ⟨#[]⟩, .string ⟨#[]⟩] 46)).drew w3.heap.size _ _ from Bx.new w3 _ _).below hb, ?_⟩
  exact bt (below_new w3 _) ⟨hb.os, hb.tape, hb.output, hb.size, hb.block⟩
theorem box_next (w3 w4 : World) (hb : Below w3.drew.heap.size w3.drew w4) : Below w3.heap.size w3 w4 := ⟨hb.os, hb.tape, hb.output, hb.size, hb.block⟩

theorem g_far {w w' : World} {row : Option Nat} (h : w.grownBy w' row) {g : Nat} (hg : w.heap.size ≤ g) (j : Nat) (u : Value) : w.grownBy (w'.setCell ⟨g, j, none⟩ u) row := by
  have hs := g_set w' g j u
  refine ⟨hs.os.trans h.os, hs.tape.trans h.tape, hs.output.trans h.output, Nat.le_trans h.size hs.size, fun i hi hne => ?_⟩
  exact (hs.block i (Nat.lt_of_lt_of_le hi h.size) (by simp; omega)).trans (h.block i hi hne)

/-- What stands behind the region in which an attribute is begun. -/
def Beg (w wx : World) (b m g0 : Nat) (s : ByteArray) (v : Value) (x : ByteArray) (u : Value) : Prop :=
  ∃ g1, u = .pointer (some ⟨g1, 0, none⟩) ∧ w.heap.size ≤ g1 ∧ g1 ≠ b ∧ g1 ≠ g0 ∧ Bx wx g1 x ⟨#[]⟩ ∧ Bx wx g0 ⟨#[]⟩ ⟨#[]⟩ ∧ Rc wx b s m v ∧ w.grownBy wx (some b) ∧ Tab wx
theorem beg_after {w w3 w4 : World} {b m g0 : Nat} {s : ByteArray} {v : Value} (x : ByteArray) (hb : Below w3.heap.size w3 w4) (hx : Bx w3 g0 ⟨#[]⟩ ⟨#[]⟩) (h : Rc w3 b s m v) (hg : w.grownBy w3 (some b)) (hT : Tab w3) :
    Beg w (w4.alloc (.cells #[.string x, .string ⟨#[]⟩] 46)) b m g0 s v x (.pointer (some ⟨w4.heap.size, 0, none⟩)) := by
  have hz := hb.size
  have hz2 := hg.size
  have h1 := h.lt
  have h2 := hx.lt
  have hb2 : Below w3.heap.size w3 (w4.alloc (.cells #[.string x, .string ⟨#[]⟩] 46)) := bt hb (below_new w4 _)
  exact ⟨_, rfl, by omega, by omega, by omega, Bx.new w4 _ _, hx.below hb2, h.below hb2, g_below hg hb2, hT.below hb2⟩
theorem beg_first {w w3 w4 : World} {b m g0 : Nat} {s : ByteArray} {v : Value} (x : ByteArray) (hb : Below w3.heap.size w3 w4) (hx : Bx w3 g0 ⟨#[]⟩ ⟨#[]⟩) (h : Rc w3 b s m v) (hg : w.grownBy w3 (some b)) (hT : Tab w3) (hy : Bx w4 w3.heap.size ⟨#[]⟩ ⟨#[]⟩) :
    Beg w ((w4.setCell ⟨w3.heap.size, 0, none⟩ (.string x)).setCell ⟨w3.heap.size, 1, none⟩ (.string ⟨#[]⟩)) b m g0 s v x (.pointer (some ⟨w3.heap.size, 0, none⟩)) := by
  have hz := hb.size
  have hz2 := hg.size
  have h1 := h.lt
  have h2 := hx.lt
  have hb2 : Below w3.heap.size w3 ((w4.setCell ⟨w3.heap.size, 0, none⟩ (.string x)).setCell ⟨w3.heap.size, 1, none⟩ (.string ⟨#[]⟩)) := (hb.setCell (Nat.le_refl _) _).setCell (Nat.le_refl _) _
  exact ⟨_, rfl, by omega, by omega, by omega, (hy.set0 x).set1 _, hx.below hb2, h.below hb2, g_below hg hb2, hT.below hb2⟩

set_option maxHeartbeats 4000000 in
theorem attr_any (b k : Nat) (s : ByteArray) (v : Value) (w : World) (h : Rc w b s k v) (hk : k < s.size) (hs : s.size ≤ 140737488351232) (hT : Tab w) (hb0 : 0 < b) :
    Calls Tryz.prog 119 #[rp b] w fun e w' => e = .returned (.agg #[.string (attr s[k] ((L s).drop (k + 1))).1.name, .string (attr s[k] ((L s).drop (k + 1))).1.value]) ∧ ∃ m, m ≤ s.size ∧ (L s).drop m = (attr s[k] ((L s).drop (k + 1))).2 ∧ Rc w' b s m v ∧ w.grownBy w' (some b) := by
  have hs' : s.size ≤ 140737488355328 := by omega
  have hbx : Bx (w.alloc (.cells #[.string ⟨#[]⟩, .string ⟨#[]⟩] 46)) w.heap.size ⟨#[]⟩ ⟨#[]⟩ := Bx.new w _ _
  have h1 : Rc (w.alloc (.cells #[.string ⟨#[]⟩, .string ⟨#[]⟩] 46)) b s k v := h.below (below_new w _)
  have hg1 : w.grownBy (w.alloc (.cells #[.string ⟨#[]⟩, .string ⟨#[]⟩] 46)) (some b) := g_alloc w _ _
  have hne : w.heap.size ≠ b := by have := h.lt; omega
  have c1 := h1.c1; have f1 := h1.f 1
  have HX := Lib.hid hbx; have H1 := Lib.hid h1; have HG1 := Lib.hid hg1; clear hbx h1 hg1
  go_enter Tryz.func119, Tryz.ntmps119
  go_wp2_with fail
  refine (upTo_ea b (k + 1) s v _ (H1.out.set1 (k + 1)) (by omega) hs').mono ?_
  rintro e w3 ⟨rfl, m, hm, hd3, h3, hg3⟩
  have hx3 := (HX.out.other hne (j := 1) _).kept hg3 hne
  have hg3' := HG1.out.trans ((g_set _ b 1 _).trans hg3)
  clear hg3 HX H1 HG1 c1 f1 h
  have hT3 := tab_kept hT hg3' hb0
  obtain ⟨g0, hg0⟩ : ∃ g0, w.heap.size = g0 := ⟨_, rfl⟩
  rw [hg0] at hx3 hne ⊢
  obtain ⟨hkm, hex⟩ := span_one hk hm hd3
  have c0 := h3.c0; have c1 := h3.c1
  have HX := Lib.hid hx3; have H3 := Lib.hid h3; have HG := Lib.hid hg3'; have HD3 := Lib.hid hd3; have HE := Lib.hid hex; have HT3 := Lib.hid hT3; have HG0 := Lib.hid hg0; clear hx3 h3 hg3' hd3 hex hT3 hg0
  have i0 : (0 : Int) ≤ (k : Int) := by omega
  have i1 : (k : Int) ≤ (m : Int) := by omega
  have i2 : (m : Int) ≤ (s.size : Int) := by omega
  have i3 : (0 : Int) ≤ (m : Int) := by omega
  go_upto_region 4 with (fail)
  go_cut [4] from 18 to 29 (fun s4 wx => Beg w wx b m g0 s v (B (lowL (L (s.extract k m)))) s4)
  case first =>
    have hlb := H3.out.lt
    have en0 := World.new_ne w3 _ c0
    have en1 := World.new_ne w3 _ c1
    have hsx : (s.extract k m).size ≤ 140737488355328 := Nat.le_trans (size_extract _ _ _) hs'
    go_region_held3 (fun w' => w'.cell? ⟨b, 0, none⟩ = some (.string s) ∧ w'.cell? ⟨b, 1, none⟩ = some (.int .i64 m)) (first | exact ⟨d0, d1⟩ | exact ⟨c0, c1⟩ | go_keep) (first
      | (go_at_call 103; refine (lower_any _ (w3.alloc (.cells #[.string ⟨#[]⟩, .string ⟨#[]⟩] 46)).drew hsx).mono ?_; rintro e w4 ⟨rfl, hb4⟩; obtain ⟨hx4, hb4'⟩ := box_first w3 w4 hb4; have d0 := (hb4'.cell (p := ⟨b, 0, none⟩) hlb).trans c0; have d1 := (hb4'.cell (p := ⟨b, 1, none⟩) hlb).trans c1; have y0 := hx4.c0; have y1 := hx4.c1; have z0 := hx4.f 0; have z1 := hx4.f 1; have HX4 := Lib.hid hx4; have HB4 := Lib.hid hb4'; clear hx4 hb4' hb4)
      | (go_at_call 103; refine (lower_any _ w3.drew hsx).mono ?_; rintro e w4 ⟨rfl, hb4⟩; have hb4' := box_next w3 w4 hb4; have d0 := (hb4'.cell (p := ⟨b, 0, none⟩) hlb).trans c0; have d1 := (hb4'.cell (p := ⟨b, 1, none⟩) hlb).trans c1; have en2 := World.new_ne w4 _ d0; have en3 := World.new_ne w4 _ d1; have HB4 := Lib.hid hb4'; clear hb4' hb4))
    all_goals go_wp2_with fail
    all_goals go_meet
    · exact beg_after _ HB4.out HX.out H3.out HG.out HT3.out
    · exact beg_first _ HB4.out HX.out H3.out HG.out HT3.out HX4.out
  case rest =>
    obtain ⟨g1, rfl, hn0, hn1, hn2, hx1, hx0, h4, hg4, hT4⟩ := hcut
    clear c0 c1 HX H3 HG HT3
    have he := HE.out
    rw [he] at hx1
    go_wp2_with fail
    refine (skip_any b m s v _ h4 hm hs').mono ?_
    rintro e w5 ⟨rfl, m5, hm5, hd5, h5, hg5⟩
    have hx15 := hx1.kept hg5 hn1; have hx05 := hx0.kept hg5 hne; have hg5' := hg4.trans hg5; have hT5 := tab_kept hT4 hg5 hb0
    clear hx1 hx0 h4 hg4 hT4 hg5
    have hd5' : (L s).drop m5 = trimS (from_ ea ((L s).drop (k + 1))) := by rw [hd5, HD3.out]
    cases h61 : hd 61 ((L s).drop m5) with
    | false =>
      have hv := valued_no h61
      have HV := Lib.hid hv; have H61 := Lib.hid h61; have HD5 := Lib.hid hd5'; clear hv h61 hd5 hd5'
      go_wp2_with fail
      refine (pass1 b m5 s v 61 _ false w5 h5 hm5 hs' rfl H61.out).mono ?_
      rintro e w6 ⟨rfl, h6, hg6⟩
      have hx16 := hx15.kept hg6 hn1; have hx06 := hx05.kept hg6 hne
      have k0 := hx16.c0; have k1 := hx16.c1; have r0 := hx06.c0; have r1 := hx06.c1; have q0 := hx06.f 0; have q1 := hx06.f 1
      have HX0 := Lib.hid hx06; have H6 := Lib.hid h6; have HG6 := Lib.hid (hg5'.trans hg6)
      clear hx15 hx05 hx16 hx06 hg5' hg6 h5 h6 hT5
      go_wp2
      refine bodyPost_ret (v := .agg #[.string (B (lowL (s[k] :: upTo ea ((L s).drop (k + 1))))), .string ⟨#[]⟩]) ?_ rfl ⟨?_, m5, hm5, ?_, (H6.out.other hne _).other hne _, ?_⟩
      · have hf := (HX0.out.set0 (B (lowL (s[k] :: upTo ea ((L s).drop (k + 1)))))).set1 ⟨#[]⟩
        have z0 := hf.c0; have z1 := hf.c1
        simp [results, Tryz.results119, go_sem, z0, z1]
      · rw [attr_eq, ← HD5.out, HV.out]; rfl
      · rw [attr_eq, ← HD5.out, HV.out]
      · exact g_far (g_far HG6.out (by rw [HG0.out]; exact Nat.le_refl _) _ _) (by rw [HG0.out]; exact Nat.le_refl _) _ _
    | true =>
      have hv := valued_yes h61
      have hdr := hd_drop hm5 h61
      rw [if_pos rfl] at hdr
      have HV := Lib.hid hv; have H61 := Lib.hid h61; have HD5 := Lib.hid hd5'; have HDR := Lib.hid hdr; clear hv h61 hd5 hd5' hdr
      go_wp2_with fail
      refine (pass1 b m5 s v 61 _ true w5 h5 hm5 hs' rfl H61.out).mono ?_
      rintro e w6 ⟨rfl, h6, hg6⟩
      have hx16 := hx15.kept hg6 hn1; have hx06 := hx05.kept hg6 hne; have hg6' := hg5'.trans hg6; have hT6 := tab_kept hT5 hg6 hb0
      clear hx15 hx05 hg5' hg6 h5 hT5
      go_wp2_with fail
      refine (skip_any b _ s v w6 h6 HDR.out.1 hs').mono ?_
      rintro e w7 ⟨rfl, m7, hm7, hd7, h7, hg7⟩
      have hx17 := hx16.kept hg7 hn1; have hx07 := hx06.kept hg7 hne; have hg7' := hg6'.trans hg7; have hT7 := tab_kept hT6 hg7 hb0
      have HD7 := Lib.hid hd7
      clear hx16 hx06 hg6' hg7 h6 hT6 hd7
      go_wp2_with fail
      refine (value_any b _ s v w7 h7 hm7 hs).mono ?_
      rintro e w8 ⟨rfl, m8, hm8, hd8, h8, hg8⟩
      have hx18 := hx17.kept hg8 hn1; have hx08 := hx07.kept hg8 hne; have hg8' := hg7'.trans hg8; have hT8 := tab_kept hT7 hg8 hb0
      have HD8 := Lib.hid hd8
      clear hx17 hx07 hg7' hg8 h7 hT7 hd8
      go_wp2_with fail
      have hvs : (B (value ((L s).drop m7)).1).size ≤ 140737488351232 := by
        rw [size_B]
        have := len_value1 ((L s).drop m7)
        rw [List.length_drop, size_L] at this
        omega
      refine (Re.decode_any _ w8 hT8 hvs).mono ?_
      rintro e w9 ⟨rfl, hb9⟩
      have hx19 := hx18.below hb9; have hx09 := hx08.below hb9
      have k0 := hx19.c0; have k1 := hx19.c1; have r0 := hx09.c0; have r1 := hx09.c1; have q0 := hx09.f 0; have q1 := hx09.f 1; have p1 := hx19.f 1
      have hn2' : g0 ≠ g1 := fun e => hn2 e.symm
      have HX1 := Lib.hid hx19; have HX0 := Lib.hid hx09; have H9 := Lib.hid (h8.below hb9); have HG9 := Lib.hid (g_below hg8' hb9)
      clear hx18 hx08 hx19 hx09 hg8' hb9 h8 hT8
      go_wp2
      refine bodyPost_ret (v := .agg #[.string (B (lowL (s[k] :: upTo ea ((L s).drop (k + 1))))), .string (B (dec (L (B (value ((L s).drop m7)).1))))]) ?_ rfl ⟨?_, m8, hm8, ?_, ((H9.out.other hn1 _).other hne _).other hne _, ?_⟩
      · have hf := ((HX0.out.other hn2' (b := g1) (j := 1) (.string (B (dec (L (B (value ((L s).drop m7)).1)))))).set0 (B (lowL (s[k] :: upTo ea ((L s).drop (k + 1)))))).set1 (B (dec (L (B (value ((L s).drop m7)).1))))
        have z0 := hf.c0; have z1 := hf.c1
        simp [results, Tryz.results119, go_sem, z0, z1]
      · rw [attr_eq, ← HD5.out, HV.out, ← HDR.out.2, ← HD7.out, L_B]
      · rw [attr_eq, ← HD5.out, HV.out, ← HDR.out.2, ← HD7.out]; exact HD8.out
      · exact g_far (g_far (g_far HG9.out hn0 _ _) (by rw [HG0.out]; exact Nat.le_refl _) _ _) (by rw [HG0.out]; exact Nat.le_refl _) _ _

end Go.Proofs.YtenmlpfjeohkiaaGreatDoor.To

namespace Go.Proofs.YtenmlpfjeohkiaaGreatDoor.To
set_option maxRecDepth 100000
set_option linter.unusedSimpArgs false
set_option linter.unusedVariables false
open Go.RowKit Ba Fm Fo Tm
open Ro (At acells len_acells below_new Sh Ra acells_one info_attr)
open Re (Tab)
open Rm (dec)
/-- Attributes of the call's own. -/
def Aw (N : Nat) (w : World) (v : Value) (l : List At) : Prop := w.ownsRow N 46 2 v l.length (l.flatMap acells) ∧ Sh l
theorem Aw.nil (N : Nat) (w : World) : Aw N w (.slice none 0 0) [] := ⟨World.ownsRow_nil w N _ 2, fun _ h => by simp at h⟩
/-- A block that is none of attributes is not theirs. -/
theorem Aw.ne {N b : Nat} {w : World} {v : Value} {l : List At} (h : Aw N w v l) {cs : Array Value} {t : TypeId} {fr : Nat × Nat} (hb : w.heap[b]? = some (.cells cs t fr)) (ht : t ≠ 46) : v.ownBlock ≠ some b := by
  rcases h.1.2 with ⟨rfl, _⟩ | ⟨g, cap, cur, rfl, _, hh, _⟩
  · simp [Value.ownBlock]
  · intro e
    have e : g = b := by simpa [Value.ownBlock] using e
    subst e
    rw [hb] at hh
    injection hh with hh
    injection hh with _ h2
    exact ht h2
theorem Aw.low {N b : Nat} {w : World} {v : Value} {l : List At} (h : Aw N w v l) (hb : b < N) : v.ownBlock ≠ some b := fun e => by
  have := (World.ownsRow.lt h.1 b e).1
  omega
theorem Aw.kept {N : Nat} {w w' : World} {v : Value} {l : List At} {row : Option Nat} (h : Aw N w v l) (hg : w.grownBy w' row) (hne : v.ownBlock = none ∨ v.ownBlock ≠ row) : Aw N w' v l := ⟨World.ownsRow.kept h.1 hg hne, h.2⟩
theorem Aw.alloc {N : Nat} {w : World} {v : Value} {l : List At} (h : Aw N w v l) (o : Obj) : Aw N (w.alloc o) v l := ⟨World.ownsRow.alloc h.1 o, h.2⟩
theorem Aw.form {N : Nat} {w : World} {v : Value} {l : List At} (h : Aw N w v l) : ∃ A c, v = .slice A l.length c := by
  rcases h.1.2 with ⟨hv, hl⟩ | ⟨g, cap, cur, hv, _⟩
  · exact ⟨none, 0, by rw [hl]; exact hv⟩
  · exact ⟨_, _, hv⟩

theorem attr_cells_new (w : World) (x : At) : ∀ j u, (acells x)[j]? = some u → (w.alloc (.cells #[.string x.name, .string x.value] 46)).cell? ((⟨w.heap.size, 0, none⟩ : Addr).add j) = some u := fun j u hu => by
  rw [WideShapes.add_plain, Nat.zero_add]
  have h := Bx.new w x.name x.value
  match j with
  | 0 => exact h.c0.trans hu
  | 1 => exact h.c1.trans hu
  | j + 2 => simp [acells] at hu
/-- append of one attribute, in a block of its own, onto attributes of the call's own. -/
theorem app_attr {ops : Array Oper} {rest : List Oper} {o : Oper} {a : Act} {Q : Exit → Act → World → Prop} (w : World) (hgd : o.guard = none) (s x : Operand)
    (ho : o.op = .call { callee := .builtin .append, args := #[s, x], argTypes := #[32, 32] })
    (N : Nat) (v : Value) (l : List At) (y : At) (hs : a.eval s = v) (hown : Aw N w v l) (hy : y.name.size ≤ maxLen) (g : Nat) (hgz : g = w.heap.size) (hx : a.eval x = .slice (some ⟨g, 0, none⟩) 1 1)
    (hl : l.length ≤ 4000000000) (hN : N ≤ w.heap.size)
    (h : ∀ v' w', Aw N w' v' (l ++ [y]) → w.grownBy w' v.ownBlock → wpList Tryz.prog ops Q rest (a.put o.dst v') w') :
    wpList Tryz.prog ops Q (o :: rest) a (w.alloc (.cells #[.string y.name, .string y.value] 46)) := by
  subst hgz
  obtain ⟨i0, hi, hz0, hz1, hz2⟩ := info_parts info_attr
  have hown' : Aw N (w.alloc (.cells #[.string y.name, .string y.value] 46)) v l := hown.alloc _
  have hsz : (w.alloc (.cells #[.string y.name, .string y.value] 46)).heap.size = w.heap.size + 1 := by simp
  refine wpList_append_own _ hgd s x 32 ho N 46 i0 _ 2 32 Tryz.underlying32 hi hz0 hz1 hz2 rfl (by decide) v l.length (l.flatMap acells) hs hown'.1 ⟨w.heap.size, 0, none⟩ 1 1 (acells y) hx rfl (attr_cells_new w y) (by have := acells_one [y]; simpa using this) (by unfold maxLen; omega) (by omega) (by omega) ?_
  intro v' w' ho2 hg2 _
  refine h v' w' ⟨?_, fun z hz => ?_⟩ ((World.grownBy_alloc w _ _).trans hg2)
  · rw [List.length_append, List.flatMap_append]
    simpa using ho2
  · rcases List.mem_append.1 hz with hz | hz
    · exact hown.2 z hz
    · rw [List.mem_singleton.1 hz]; exact hy

/-- The names that were seen, as a set. -/
def keys (l : List At) : List Lit := l.map fun a => .string (L a.name)
def Sn (l : List At) : DataW Unit := Maps.setOf (.agg []) (keys l)
theorem has_Sn (l : List At) (n : ByteArray) : Maps.has (Sn l) (.string (L n)) = known l n := by
  unfold Sn
  rw [Maps.has_setOf _ _ _ (fun x hx => by
    unfold keys at hx
    obtain ⟨a, _, rfl⟩ := List.mem_map.1 hx
    simp [WideAt.IsKeyLit])]
  unfold keys known
  rw [List.any_map]
  congr 1
  funext a
  show (Lit.string (L a.name)).sameKey (.string (L n)) = decide (a.name = n)
  rw [Bool.eq_iff_iff, WideAt.sameKey_iff (by simp [WideAt.IsKeyLit]), decide_eq_true_iff]
  constructor
  · intro e
    injection e with e
    exact L_inj e
  · intro e
    rw [e]
theorem Sn_snoc (l : List At) (a : At) : Sn (l ++ [a]) = (Sn l).put (.string (L a.name)) (.agg []) := by
  unfold Sn keys
  rw [List.map_append]
  exact Maps.setOf_snoc _ _ _
theorem keyed_str : Maps.Keyed Tryz.prog 9 := Maps.string_keyed Tryz.underlying9
theorem zero_unit (w : World) : (zeroValue 95).run Tryz.prog w = .ok (.agg #[]) w := by kernel_rfl
end Go.Proofs.YtenmlpfjeohkiaaGreatDoor.To

namespace Go.Proofs.YtenmlpfjeohkiaaGreatDoor.To
set_option maxRecDepth 100000
set_option linter.unusedSimpArgs false
set_option linter.unusedVariables false
open Go.RowKit Ba Fm Fo Tm
open Ro (At acells len_acells below_new Sh Ra acells_one info_attr)
open Re (Tab)
open Rm (dec)
/-- What the loop over a tag's attributes has come to. -/
structure Al (w wr : World) (b k g0 : Nat) (s : ByteArray) (V v : Value) (sf : Bool) (m : Nat) (l : List At) : Prop where
  m_le : m ≤ s.size
  k_le : k ≤ m
  rc : Rc wr b s m V
  map : wr.ownsMap Tryz.prog 9 unitElem g0 l.length (Sn l)
  own : Aw (g0 + 1) wr v l
  g : w.grownBy wr (some b)
  eq : attrs false [] ((L s).drop k) = attrs sf l ((L s).drop m)
  few : l.length ≤ m - k
  lo : w.heap.size ≤ g0
  hi : g0 < wr.heap.size

theorem Al.drew {w wr : World} {b k g0 m : Nat} {s : ByteArray} {V v : Value} {sf : Bool} {l : List At} (h : Al w wr b k g0 s V v sf m l) (n : Nat) : Al w (wr.drewN n) b k g0 s V v sf m l :=
  ⟨h.m_le, h.k_le, h.rc, h.map, h.own, h.g.trans (g_dN _ _ _), h.eq, h.few, h.lo, h.hi⟩
theorem Aw.drew {N : Nat} {w : World} {v : Value} {l : List At} (h : Aw N w v l) (n : Nat) : Aw N (w.drewN n) v l := h

theorem le2 {w : World} {g : Nat} {o o' : Obj} (h : g < w.heap.size) : g + 1 ≤ ((w.alloc o).alloc o').heap.size := by simp; omega
theorem g_row {w w' w'' : World} {row row2 : Option Nat} (h : w.grownBy w' row) (hg : w'.grownBy w'' row2) (hr : ∀ j, row2 = some j → w.heap.size ≤ j) : w.grownBy w'' row :=
  ⟨hg.os.trans h.os, hg.tape.trans h.tape, hg.output.trans h.output, Nat.le_trans h.size hg.size, fun i hi hne => (hg.block i (Nat.lt_of_lt_of_le hi h.size) (fun e => by have := hr i e.symm; omega)).trans (h.block i hi hne)⟩
theorem lt_eq {a b c : Nat} (h : a = b) (h2 : b < c) : a < c := h ▸ h2
theorem map_ne {w : World} {b k g n : Nat} {s : ByteArray} {V : Value} {l : DataW Unit} (h : Rc w b s k V) (hm : w.ownsMap Tryz.prog 9 unitElem g n l) : g ≠ b := by
  obtain ⟨es, clock, hb, _⟩ := hm
  intro e
  subst e
  unfold Rc at h
  rw [h] at hb
  cases hb
/-- A place further on. -/
theorem Al.moved {w wr : World} {b k g0 m : Nat} {s : ByteArray} {V v : Value} {sf : Bool} {l : List At} (h : Al w wr b k g0 s V v sf m l) (x u : Nat) :
    Rc ((wr.drewN x).setCell ⟨b, 1, none⟩ (.int .i64 u)) b s u V ∧ w.grownBy ((wr.drewN x).setCell ⟨b, 1, none⟩ (.int .i64 u)) (some b) ∧ Aw (g0 + 1) ((wr.drewN x).setCell ⟨b, 1, none⟩ (.int .i64 u)) v l ∧
      ((wr.drewN x).setCell ⟨b, 1, none⟩ (.int .i64 u)).ownsMap Tryz.prog 9 unitElem g0 l.length (Sn l) ∧ g0 < ((wr.drewN x).setCell ⟨b, 1, none⟩ (.int .i64 u)).heap.size := by
  have hg := g_set (wr.drewN x) b 1 (.int .i64 u)
  have hrc : Rc (wr.drewN x) b s m V := h.rc
  refine ⟨hrc.set1 u, (h.g.trans (g_dN _ _ _)).trans hg, ?_, ?_, Nat.lt_of_lt_of_le h.hi hg.size⟩
  · exact Aw.kept (show Aw (g0 + 1) (wr.drewN x) v l from h.own) hg (.inr (h.own.ne (show wr.heap[b]? = _ from h.rc) (by decide)))
  · exact World.ownsMap.kept (show (wr.drewN x).ownsMap Tryz.prog 9 unitElem g0 l.length (Sn l) from h.map) hg (by have := map_ne h.rc h.map; simpa using this)
/-- Behind an attribute that was read. -/
theorem Al.read {w wr w2 : World} {b k g0 m m2 : Nat} {s : ByteArray} {V v : Value} {sf : Bool} {l : List At} (h : Al w wr b k g0 s V v sf m l) (x : Nat) (hg : (wr.drewN x).grownBy w2 (some b)) (h2 : Rc w2 b s m2 V) :
    w.grownBy w2 (some b) ∧ Aw (g0 + 1) w2 v l ∧ w2.ownsMap Tryz.prog 9 unitElem g0 l.length (Sn l) ∧ g0 < w2.heap.size := by
  refine ⟨(h.g.trans (g_dN _ _ _)).trans hg, ?_, ?_, Nat.lt_of_lt_of_le h.hi hg.size⟩
  · exact Aw.kept (show Aw (g0 + 1) (wr.drewN x) v l from h.own) hg (.inr (h.own.ne (show wr.heap[b]? = _ from h.rc) (by decide)))
  · exact World.ownsMap.kept (show (wr.drewN x).ownsMap Tryz.prog 9 unitElem g0 l.length (Sn l) from h.map) hg (by have := map_ne h.rc h.map; simpa using this)
theorem len_name (c : UInt8) (r : List UInt8) : (attr c r).1.name.size ≤ r.length + 1 := by
  show (B (lowL (c :: upTo ea r))).size ≤ _
  rw [size_B, len_lowL, List.length_cons]
  have := len_lead (by1 ea) r
  show (lead (by1 ea) r).length + 1 ≤ _
  omega
theorem Aw.mono {N N' : Nat} {w : World} {v : Value} {l : List At} (h : Aw N w v l) (hN : N' ≤ N) : Aw N' w v l := ⟨World.ownsRow.mono h.1 hN, h.2⟩

set_option maxRecDepth 100000 in
set_option maxHeartbeats 8000000 in
theorem attrs_any (b k : Nat) (s : ByteArray) (V : Value) (w : World) (h : Rc w b s k V) (hk : k ≤ s.size) (hs : s.size ≤ 1000000000) (hT : Tab w) (hb0 : 0 < b) :
    Calls Tryz.prog 105 #[rp b] w fun e w' => ∃ v sf en m l, e = .returned (.tuple #[v, .bool sf, .bool en]) ∧ Aw w.heap.size w' v l ∧ m ≤ s.size ∧ l.length ≤ s.size ∧ Rc w' b s m V ∧ w.grownBy w' (some b) ∧
      attrs false [] ((L s).drop k) = (if en = true then some (l, sf, (L s).drop m) else none) ∧ (en = false → m = s.size) := by
  have hmm := @run_makeMap Tryz.prog
  have hs' : s.size ≤ 140737488355328 := by omega
  have h0 : Al w (w.alloc (.map #[] 0)) b k w.heap.size s V (.slice none 0 0) false k [] :=
    ⟨hk, Nat.le_refl _, h.below (below_new w _), by exact World.ownsMap_made _ _ _ _, Aw.nil _ _, g_alloc w _ _, rfl, by simp, Nat.le_refl _, by simp⟩
  have HT := Lib.hid hT
  clear h hT
  go_enter Tryz.func105, Tryz.ntmps105
  go_wp2
  go_step3
  go_wp2
  go_step3
  go_wp2
  clear hmm
  generalize hg0 : w.heap.size = g0 at *
  go_loopw [2, 3, 4] (fun v2 v3 v4 wr => ∃ sf m l, v3 = .bool sf ∧ v4 = .bool false ∧ Al w wr b k g0 s V v2 sf m l) (fun _ _ _ wr => s.size - posOf wr b)
  case atStart => exact ⟨false, k, [], rfl, rfl, h0⟩
  case round =>
    clear h0
    obtain ⟨sf, m, l, rfl, rfl, hal⟩ := hrel
    have hm := hal.m_le
    have c0 := hal.rc.c0; have c1 := hal.rc.c1; have f1 := hal.rc.f 1
    have hpos := hal.rc.pos
    by_cases hp : m < s.size
    · have hlt : decide ((m : Int) < s.size) = true := decide_eq_true (by omega)
      have hcon := drop_cons s m hp
      have e62 : ((s[m].toNat : Int) == 62) = (s[m] == 62) := u8_eq (b := 62)
      have e47 : ((s[m].toNat : Int) == 47) = (s[m] == 47) := u8_eq (b := 47)
      by_cases h62 : s[m] = 62
      · have hb : (s[m] == 62) = true := by rw [h62]; rfl
        rw [hb] at e62
        have heq := hal.eq
        rw [hcon, h62, attrs_end] at heq
        have HA := Lib.hid hal; have HE := Lib.hid heq; clear hal hpos heq hcon h62 hb e47
        go_wp2
        go_quiet (fail)
        go_wp2
        go_quiet (fail)
        go_wp2
        rw [Exit.noGoto_ret]
        go_ret3
        obtain ⟨r1, r2, r3, _⟩ := HA.out.moved _ (m + 1)
        exact ⟨_, _, _, m + 1, l, rfl, r3.mono (by omega), by omega, by have := HA.out.few; omega, r1, r2, by rw [if_pos rfl]; exact HE.out, fun h => by cases h⟩
      by_cases h47 : s[m] = 47
      · have hb : (s[m] == 62) = false := by rw [h47]; rfl
        have hb2 : (s[m] == 47) = true := by rw [h47]; rfl
        rw [hb] at e62
        rw [hb2] at e47
        have heq := hal.eq
        rw [hcon, attrs_skip _ _ _ h62 (.inl h47), hb2] at heq
        have HA := Lib.hid hal; have HE := Lib.hid heq; have HP := Lib.hid hpos; clear hal hpos heq hcon h62 h47 hb hb2
        go_wp2
        go_quiet (fail)
        go_wp2
        go_quiet (fail)
        go_wp2
        go_roundw
        case rel =>
          obtain ⟨r1, r2, r3, r4, r5⟩ := HA.out.moved _ (m + 1)
          have hf := HA.out.few
          have hk2 := HA.out.k_le
          exact ⟨true, m + 1, l, rfl, rfl, by omega, by omega, r1, r4, r3, r2, HE.out, by omega, HA.out.lo, r5⟩
        case measure =>
          obtain ⟨r1, _⟩ := HA.out.moved _ (m + 1)
          rw [HP.out]
          exact lt_eq (congrArg (fun z => s.size - z) r1.pos) (by omega)
      have hb : (s[m] == 62) = false := by simpa using h62
      have hb2 : (s[m] == 47) = false := by simpa using h47
      rw [hb] at e62
      rw [hb2] at e47
      cases hsp : sp s[m] with
      | true =>
        have heq := hal.eq
        rw [hcon, attrs_skip _ _ _ h62 (.inr hsp), hb2] at heq
        have HA := Lib.hid hal; have HE := Lib.hid heq; have HP := Lib.hid hpos; have HS := Lib.hid hsp; clear hal hpos heq hcon h62 h47 hb hb2 hsp
        go_wp2
        go_quiet (fail)
        go_wp2
        go_quiet (fail)
        go_wp2_with (go_at_call 107; refine (space_any s[m] _).mono ?_; rw [HS.out]; rintro e w' ⟨rfl, rfl⟩)
        go_roundw
        case rel =>
          obtain ⟨r1, r2, r3, r4, r5⟩ := HA.out.moved _ (m + 1)
          have hf := HA.out.few
          have hk2 := HA.out.k_le
          exact ⟨false, m + 1, l, rfl, rfl, by omega, by omega, r1, r4, r3, r2, HE.out, by omega, HA.out.lo, r5⟩
        case measure =>
          obtain ⟨r1, _⟩ := HA.out.moved _ (m + 1)
          rw [HP.out]
          exact lt_eq (congrArg (fun z => s.size - z) r1.pos) (by omega)
      | false =>
        have heq := hal.eq
        rw [hcon, attrs_attr _ _ _ h62 (by rw [hsp]; simpa using h47)] at heq
        have hpl := len_attr s[m] ((L s).drop (m + 1))
        have HA := Lib.hid hal; have HE := Lib.hid heq; have HP := Lib.hid hpos; have HS := Lib.hid hsp; have HL := Lib.hid hpl; clear hal hpos heq hcon h62 h47 hb hb2 hsp hpl
        go_wp2
        go_quiet (fail)
        go_wp2
        go_quiet (fail)
        go_wp2_with (go_at_call 107; refine (space_any s[m] _).mono ?_; rw [HS.out]; rintro e w' ⟨rfl, rfl⟩)
        refine (attr_any b m s V _ (HA.out.rc.drew _) hp (by omega) (tab_kept HT.out (HA.out.g.trans (g_dN _ _ _)) hb0) hb0).mono ?_
        rintro e w2 ⟨rfl, m2, hm2, hd2, h2, hg2⟩
        obtain ⟨r1, r2, r3, r4⟩ := HA.out.read _ hg2 h2
        have hns := len_name s[m] ((L s).drop (m + 1))
        have heq := HE.out
        have hln := HL.out
        rw [← hd2] at heq hln
        obtain ⟨a, ha⟩ : ∃ a, (attr s[m] ((L s).drop (m + 1))).1 = a := ⟨_, rfl⟩
        rw [ha] at heq hns ⊢
        rw [List.length_drop, size_L] at hns
        rw [List.length_drop, List.length_drop, size_L] at hln
        have hmm2 : m + 1 ≤ m2 := by omega
        have hnm : a.name.size ≤ maxLen := by unfold maxLen; omega
        have hkey : keyOf Tryz.prog 9 (.string a.name) = some (.string (L a.name)) := WideMaps.keyOf_string_mk Tryz.underlying9 hnm
        have hbx := Bx.new w2 a.name a.value
        have HB := Lib.hid hbx; have HG2 := Lib.hid r1; have HW := Lib.hid r2; have HM := Lib.hid r3; have H2 := Lib.hid h2; have HI := Lib.hid r4; have HLN := Lib.hid hln; have HNM := Lib.hid hnm
        clear hbx r1 r2 r3 r4 h2 hg2 hd2 ha hns hln hnm HL HE
        cases hq : known l a.name with
        | true =>
          have hp2 : put l a = l := by unfold put; rw [if_pos hq]
          rw [hp2] at heq
          have hhas := has_Sn l a.name
          rw [hq] at hhas
          have HE := Lib.hid heq; have HH := Lib.hid hhas; clear heq hhas hp2 hq
          go_wp2_with (at_lookup; refine wpList_lookup_own_unit _ rfl _ _ 94 rfl 9 95 keyed_str Tryz.underlying94 (zero_unit _) g0 l.length (Sn l) rfl (HM.out.alloc _) _ _ rfl hkey ?_; rw [HH.out])
          go_roundw
          case rel =>
            have h3 := (((H2.out.below (below_new w2 (.cells #[.string a.name, .string a.value] 46)))).below (below_new _ (.cells #[] 95)))
            have hf := HA.out.few
            have hk2 := HA.out.k_le
            exact ⟨false, m2, l, rfl, rfl, hm2, by omega, h3, (HM.out.alloc _).alloc _, (HW.out.alloc _).alloc _, (HG2.out.trans (g_alloc _ _ _)).trans (g_alloc _ _ _), HE.out, by omega, HA.out.lo, by have := HI.out; simp; omega⟩
          case measure =>
            have h3 := (((H2.out.below (below_new w2 (.cells #[.string a.name, .string a.value] 46)))).below (below_new _ (.cells #[] 95)))
            rw [HP.out]
            exact lt_eq (congrArg (fun z => s.size - z) h3.pos) (by omega)
        | false =>
          have hp2 : put l a = l ++ [a] := by unfold put; rw [if_neg (by rw [hq]; simp)]
          rw [hp2] at heq
          have hhas := has_Sn l a.name
          rw [hq] at hhas
          have hlen : l.length < maxLen := by have := HA.out.few; unfold maxLen; omega
          have hl4 : l.length ≤ 4000000000 := by have := HA.out.few; omega
          have HE := Lib.hid heq; have HH := Lib.hid hhas; clear heq hhas hp2 hq
          have hne1 : g0 ≠ w2.heap.size := by have := HI.out; omega
          have hbb := H2.out.lt
          go_wp2_with (first
            | (at_lookup; refine wpList_lookup_own_unit _ rfl _ _ 94 rfl 9 95 keyed_str Tryz.underlying94 (zero_unit _) g0 l.length (Sn l) rfl (HM.out.alloc _) _ _ rfl hkey ?_; rw [HH.out])
            | (at_mapUpdate; refine wpList_mapUpdate_own _ rfl _ _ _ 94 rfl 9 95 keyed_str Tryz.underlying94 (unitElem (H := Unit)) g0 l.length (Sn l) rfl ((HM.out.alloc _).alloc _) hlen _ _ _ rfl rfl hkey _ [] unitElem_mk ?_; intro w5 hown5 hgrow5; have hx5 := ((HB.out).below (below_new _ (.cells #[] 95))).kept hgrow5 hne1.symm; have y0 := hx5.c0; have y1 := hx5.c1; have hw5 := (((HW.out.alloc (.cells #[.string a.name, .string a.value] 46)).alloc (.cells #[] 95)).kept hgrow5 (.inr (HW.out.low (Nat.lt_succ_self _)))); have hz5 : g0 + 1 ≤ w5.heap.size := Nat.le_trans (le2 HI.out) hgrow5.size; have HO5 := Lib.hid hown5; have HG5 := Lib.hid hgrow5; have HW5 := Lib.hid hw5; have HZ5 := Lib.hid hz5; clear hx5 hw5 hz5 hown5 hgrow5)
            | (at_builtin; go_loud (refine app_attr w5 rfl (.tmp 44) (.tmp 46) rfl (g0 + 1) u2 l a rfl HW5.out HNM.out w5.heap.size rfl rfl hl4 HZ5.out ?_); intro v7 w7 hw7 hg7))
          have h3 := (((H2.out.below (below_new w2 (.cells #[.string a.name, .string a.value] 46)))).below (below_new _ (.cells #[] 95)))
          have hgb := map_ne H2.out HM.out
          have h5 : Rc w5 b s m2 V := (HG5.out.block b h3.lt (by simpa using Ne.symm hgb)).trans h3
          have h7 : Rc w7 b s m2 V := (hg7.block b h5.lt (fun e => HW5.out.ne h5 (by decide) e.symm)).trans h5
          have hm7 := World.ownsMap.kept HO5.out hg7 (fun e => HW5.out.low (Nat.lt_succ_self _) e.symm)
          rw [← Sn_snoc] at hm7
          have hlo := HA.out.lo
          have hgw : w.grownBy w7 (some b) := g_row (g_row ((HG2.out.trans (g_alloc _ _ _)).trans (g_alloc _ _ _)) HG5.out (fun j hj => by injection hj with hj; omega)) hg7 (fun j hj => by have := (World.ownsRow.lt HW5.out.1 j hj).1; omega)
          have hz7 : g0 < w7.heap.size := Nat.lt_of_lt_of_le (show g0 < w5.heap.size from HZ5.out) hg7.size
          go_roundw
          case rel =>
            have hf := HA.out.few
            have hk2 := HA.out.k_le
            exact ⟨false, m2, l ++ [a], rfl, rfl, hm2, by omega, h7, by rw [List.length_append]; exact hm7, hw7, hgw, HE.out, by rw [List.length_append]; simp; omega, hlo, hz7⟩
          case measure =>
            rw [HP.out]
            exact lt_eq (congrArg (fun z => s.size - z) h7.pos) (by omega)
    · have hlt : decide ((m : Int) < s.size) = false := decide_eq_false (by omega)
      have heq := hal.eq
      rw [drop_nil s m hp, attrs_nil] at heq
      have HA := Lib.hid hal; have HE := Lib.hid heq; clear hal hpos heq
      go_wp2
      go_quiet (fail)
      go_wp2
      rw [Exit.noGoto_ret]
      go_ret3
      exact ⟨_, _, _, m, l, rfl, (HA.out.drew _).own.mono (by omega), hm, by have := HA.out.few; omega, HA.out.rc, HA.out.g.trans (g_dN _ _ _), by rw [if_neg (by simp)]; exact HE.out, fun _ => by omega⟩

end Go.Proofs.YtenmlpfjeohkiaaGreatDoor.To

namespace Go.Proofs.YtenmlpfjeohkiaaGreatDoor.To
set_option maxRecDepth 100000
set_option linter.unusedSimpArgs false
set_option linter.unusedVariables false
open Go.RowKit Ba Fm Fo Tm
theorem isEmpty_L {s : ByteArray} (h : ¬ 0 < s.size) : L s = [] := List.eq_nil_of_length_eq_zero (by rw [size_L]; omega)
theorem L_cons (s : ByteArray) (h : 0 < s.size) : L s = s[0] :: (L s).drop 1 := by
  have := drop_cons s 0 h
  rwa [List.drop_zero] at this
theorem letter1 (c : UInt8) (w : World) (q : Bool) (hq : lr c = q) : Calls Tryz.prog 100 #[.int .u8 c.toNat] w fun e w' => e = .returned (.bool q) ∧ w = w' := by
  subst hq
  exact letter_any c w

set_option maxHeartbeats 1000000 in
theorem slash_any (s : ByteArray) (w : World) (hs : s.size ≤ 140737488355328) : Calls Tryz.prog 101 #[.string s] w fun e w' => e = .returned (.int .i64 (slashed (L s))) ∧ w = w' := by
  by_cases hp : 0 < s.size
  · have hl := L_cons s hp
    have he : s.toList.isEmpty = false := by rw [toList_L, hl]; rfl
    cases hr : lr s[0] with
    | true =>
      have hv : slashed (L s) = 2 := by rw [hl]; simp [slashed, hr]
      have HR := Lib.hid hr; have HV := Lib.hid hv; clear hr hv hl
      go_enter Tryz.func101, Tryz.ntmps101
      go_wp2_with (go_at_call 100; refine (letter1 s[0] _ true HR.out).mono ?_; rintro e w' ⟨rfl, rfl⟩)
      go_ret
      exact ⟨ret_int (by rw [HV.out]; rfl), rfl⟩
    | false =>
      have e62 : ((s[0].toNat : Int) == 62) = (s[0] == 62) := u8_eq (b := 62)
      cases h62 : (s[0] == 62) with
      | true =>
        have hv : slashed (L s) = 3 := by rw [hl]; have := eq_of_beq h62; simp [slashed, hr, this]; rw [this] at hr; revert hr; decide
        rw [h62] at e62
        have HR := Lib.hid hr; have HV := Lib.hid hv; clear hr hv hl h62
        go_enter Tryz.func101, Tryz.ntmps101
        go_wp2_with (go_at_call 100; refine (letter1 s[0] _ false HR.out).mono ?_; rintro e w' ⟨rfl, rfl⟩)
        go_ret
        exact ⟨ret_int (by rw [HV.out]; rfl), rfl⟩
      | false =>
        have hv : slashed (L s) = 6 := by rw [hl]; have : ¬ s[0] = 62 := by simpa using h62
                                          simp [slashed, hr, this]
        rw [h62] at e62
        have HR := Lib.hid hr; have HV := Lib.hid hv; clear hr hv hl h62
        go_enter Tryz.func101, Tryz.ntmps101
        go_wp2_with (go_at_call 100; refine (letter1 s[0] _ false HR.out).mono ?_; rintro e w' ⟨rfl, rfl⟩)
        go_ret
        exact ⟨ret_int (by rw [HV.out]; rfl), rfl⟩
  · have hl := isEmpty_L hp
    have he : s.toList.isEmpty = true := by rw [toList_L, hl]; rfl
    have hv : slashed (L s) = 0 := by rw [hl]; rfl
    have HV := Lib.hid hv; clear hv hl
    go_enter Tryz.func101, Tryz.ntmps101
    go_wp2
    go_ret
    exact ⟨ret_int (by rw [HV.out]; rfl), rfl⟩

theorem starts1 (s t : ByteArray) (w : World) (tl : List UInt8) (q : Bool) (hs : s.size ≤ 140737488355328) (ht : t.size ≤ 140737488355328) (hl : L t = tl) (hq : pre tl (L s) = q) :
    Calls Tryz.prog 112 #[.string s, .string t] w fun e w' => e = .returned (.bool q) ∧ w = w' := by
  subst hl hq
  exact starts_any s t w hs ht
theorem same1 (a b : ByteArray) (w : World) (q : Bool) (ha : a.size ≤ 140737488355328) (hb : b.size ≤ 140737488355328) (hq : decide (lowL (L a) = lowL (L b)) = q) :
    Calls Tryz.prog 113 #[.string a, .string b] w fun e w' => e = .returned (.bool q) ∧ Below w.heap.size w w' := by
  subst hq
  exact same_any a b w ha hb

theorem marked_4 {r : List UInt8} (h : pre [45, 45] r = true) : marked r = 4 := by unfold marked; rw [if_pos h]
theorem marked_5 {r : List UInt8} (h : pre [45, 45] r = false) (h1 : lowL (r.take 7) = [100, 111, 99, 116, 121, 112, 101]) (h2 : by1 lr (r.drop 7) = false) : marked r = 5 := by unfold marked; rw [if_neg (by rw [h]; simp), if_pos ⟨h1, h2⟩]
theorem marked_6 {r : List UInt8} (h : pre [45, 45] r = false) (h1 : ¬ (lowL (r.take 7) = [100, 111, 99, 116, 121, 112, 101] ∧ by1 lr (r.drop 7) = false)) : marked r = 6 := by unfold marked; rw [if_neg (by rw [h]; simp), if_neg h1]
theorem word7 : L (⟨#[100, 111, 99, 116, 121, 112, 101]⟩ : ByteArray) = [100, 111, 99, 116, 121, 112, 101] ∧ lowL [100, 111, 99, 116, 121, 112, 101] = [100, 111, 99, 116, 121, 112, 101] := ⟨rfl, by decide⟩
theorem L_take (s : ByteArray) (n : Nat) : L (s.extract 0 n) = (L s).take n := by rw [L_extract, List.drop_zero, Nat.sub_zero]

set_option maxHeartbeats 2000000 in
theorem mark_any (s : ByteArray) (w : World) (hs : s.size ≤ 140737488355328) : Calls Tryz.prog 102 #[.string s] w fun e w' => e = .returned (.int .i64 (marked (L s))) ∧ Below w.heap.size w w' := by
  have h4 : (4 : Nat) ≤ 5 := by decide
  cases hpre : pre [45, 45] (L s) with
  | true =>
    have hv := marked_4 hpre
    have HP := Lib.hid hpre; have HV := Lib.hid hv; clear hpre hv
    go_enter Tryz.func102, Tryz.ntmps102
    go_wp2_with (go_at_call 112; refine (starts1 s _ _ [45, 45] true hs (by decide) rfl HP.out).mono ?_; rintro e w' ⟨rfl, rfl⟩)
    go_ret
    exact ⟨ret_int (by rw [HV.out]; rfl), Below.refl _ _⟩
  | false =>
    by_cases h7 : 7 ≤ s.size
    · have hd : decide ((s.size : Int) < 7) = false := decide_eq_false (by omega)
      have hx : (s.extract 0 7).size ≤ 140737488355328 := Nat.le_trans (size_extract _ _ _) hs
      have hsm : decide (lowL (L (s.extract 0 7)) = lowL (L (⟨#[100, 111, 99, 116, 121, 112, 101]⟩ : ByteArray))) = decide (lowL ((L s).take 7) = [100, 111, 99, 116, 121, 112, 101]) := by rw [L_take, word7.1, word7.2]
      by_cases hw : lowL ((L s).take 7) = [100, 111, 99, 116, 121, 112, 101]
      · rw [decide_eq_true hw] at hsm
        by_cases h8 : 7 < s.size
        · have hd8 : decide ((7 : Int) < s.size) = true := decide_eq_true (by omega)
          cases hr : lr s[7] with
          | true =>
            have hv := marked_6 hpre (fun e => by have := e.2; rw [by1_at lr s 7 h8 true hr] at this; cases this)
            have HP := Lib.hid hpre; have HV := Lib.hid hv; have HS := Lib.hid hsm; have HR := Lib.hid hr; clear hpre hv hsm hr hw
            go_enter Tryz.func102, Tryz.ntmps102
            go_wp2_with (first
              | (go_at_call 112; refine (starts1 s _ _ [45, 45] false hs (by decide) rfl HP.out).mono ?_; rintro e w' ⟨rfl, rfl⟩)
              | (go_at_call 113; refine (same1 _ _ w true hx (by decide) HS.out).mono ?_; rintro e w1 ⟨rfl, hb1⟩)
              | (go_at_call 100; refine (letter1 s[7] _ true HR.out).mono ?_; rintro e w' ⟨rfl, rfl⟩))
            go_ret
            exact ⟨ret_int (by rw [HV.out]; rfl), hb1⟩
          | false =>
            have hv := marked_5 hpre hw (by1_at lr s 7 h8 false hr)
            have HP := Lib.hid hpre; have HV := Lib.hid hv; have HS := Lib.hid hsm; have HR := Lib.hid hr; clear hpre hv hsm hr hw
            go_enter Tryz.func102, Tryz.ntmps102
            go_wp2_with (first
              | (go_at_call 112; refine (starts1 s _ _ [45, 45] false hs (by decide) rfl HP.out).mono ?_; rintro e w' ⟨rfl, rfl⟩)
              | (go_at_call 113; refine (same1 _ _ w true hx (by decide) HS.out).mono ?_; rintro e w1 ⟨rfl, hb1⟩)
              | (go_at_call 100; refine (letter1 s[7] _ false HR.out).mono ?_; rintro e w' ⟨rfl, rfl⟩))
            go_ret
            exact ⟨ret_int (by rw [HV.out]; rfl), hb1⟩
        · have hd8 : decide ((7 : Int) < s.size) = false := decide_eq_false (by omega)
          have hv := marked_5 hpre hw (by rw [drop_nil s 7 h8]; rfl)
          have HP := Lib.hid hpre; have HV := Lib.hid hv; have HS := Lib.hid hsm; clear hpre hv hsm hw
          go_enter Tryz.func102, Tryz.ntmps102
          go_wp2_with (first
            | (go_at_call 112; refine (starts1 s _ _ [45, 45] false hs (by decide) rfl HP.out).mono ?_; rintro e w' ⟨rfl, rfl⟩)
            | (go_at_call 113; refine (same1 _ _ w true hx (by decide) HS.out).mono ?_; rintro e w1 ⟨rfl, hb1⟩))
          go_ret
          exact ⟨ret_int (by rw [HV.out]; rfl), hb1⟩
      · rw [decide_eq_false hw] at hsm
        have hv := marked_6 hpre (fun e => hw e.1)
        have HP := Lib.hid hpre; have HV := Lib.hid hv; have HS := Lib.hid hsm; clear hpre hv hsm hw
        go_enter Tryz.func102, Tryz.ntmps102
        go_wp2_with (first
          | (go_at_call 112; refine (starts1 s _ _ [45, 45] false hs (by decide) rfl HP.out).mono ?_; rintro e w' ⟨rfl, rfl⟩)
          | (go_at_call 113; refine (same1 _ _ w false hx (by decide) HS.out).mono ?_; rintro e w1 ⟨rfl, hb1⟩))
        go_ret
        exact ⟨ret_int (by rw [HV.out]; rfl), hb1⟩
    · have hd : decide ((s.size : Int) < 7) = true := decide_eq_true (by omega)
      have hv := marked_6 hpre (fun e => by
        have := congrArg List.length e.1
        rw [len_lowL, List.length_take, size_L] at this
        simp at this
        omega)
      have HP := Lib.hid hpre; have HV := Lib.hid hv; clear hpre hv
      go_enter Tryz.func102, Tryz.ntmps102
      go_wp2_with (go_at_call 112; refine (starts1 s _ _ [45, 45] false hs (by decide) rfl HP.out).mono ?_; rintro e w' ⟨rfl, rfl⟩)
      go_ret
      exact ⟨ret_int (by rw [HV.out]; rfl), Below.refl _ _⟩

end Go.Proofs.YtenmlpfjeohkiaaGreatDoor.To

namespace Go.Proofs.YtenmlpfjeohkiaaGreatDoor.To
set_option maxRecDepth 100000
set_option linter.unusedSimpArgs false
set_option linter.unusedVariables false
open Go.RowKit Ba Fm Fo Tm
theorem below_d (w : World) (n : Nat) : Below w.heap.size w (w.drewN n) := ⟨rfl, rfl, rfl, Nat.le_refl _, fun _ _ => rfl⟩
theorem below_d2 {w w' : World} {n : Nat} (h : Below (w.drewN n).heap.size (w.drewN n) w') : Below w.heap.size w w' := ⟨h.os, h.tape, h.output, h.size, h.block⟩
theorem begun_two (a c : UInt8) (r : List UInt8) : Tm.begun (a :: c :: r) = if a = 60 then (if lr c = true then 1 else if c = 47 then slashed r else if c = 33 then marked r else if c = 63 then 6 else 0) else 0 := rfl
theorem L_two (s : ByteArray) (h : 2 ≤ s.size) : L s = s[0] :: s[1] :: (L s).drop 2 := by
  have h0 := L_cons s (by omega)
  rw [drop_cons s 1 (by omega)] at h0
  exact h0
theorem begun_few {s : ByteArray} (h : ¬ 2 ≤ s.size) : Tm.begun (L s) = 0 := by
  have hl : (L s).length < 2 := by rw [size_L]; omega
  match h : L s, hl with
  | [], _ => rfl
  | [a], _ =>
    show (if a = 60 then 0 else 0) = 0
    split <;> rfl
theorem slash1 (s : ByteArray) (w : World) (l : List UInt8) (hs : s.size ≤ 140737488355328) (hl : L s = l) : Calls Tryz.prog 101 #[.string s] w fun e w' => e = .returned (.int .i64 (slashed l)) ∧ w = w' := by
  subst hl
  exact slash_any s w hs
theorem mark1 (s : ByteArray) (w : World) (l : List UInt8) (hs : s.size ≤ 140737488355328) (hl : L s = l) : Calls Tryz.prog 102 #[.string s] w fun e w' => e = .returned (.int .i64 (marked l)) ∧ Below w.heap.size w w' := by
  subst hl
  exact mark_any s w hs

set_option maxHeartbeats 2000000 in
theorem begun_any (s : ByteArray) (w : World) (hs : s.size ≤ 140737488355328) : Calls Tryz.prog 78 #[.string s] w fun e w' => e = .returned (.int .i64 (Tm.begun (L s))) ∧ Below w.heap.size w w' := by
  by_cases h2 : 2 ≤ s.size
  · have hd : decide ((s.size : Int) < 2) = false := decide_eq_false (by omega)
    have hl := L_two s h2
    have hx : (s.extract 2 s.size).size ≤ 140737488355328 := Nat.le_trans (size_extract _ _ _) hs
    have hxl : L (s.extract 2 s.size) = (L s).drop 2 := L_end s 2
    have e60 : ((s[0].toNat : Int) == 60) = (s[0] == 60) := u8_eq (b := 60)
    have h1 : 1 < s.size := by omega
    have h0 : 0 < s.size := by omega
    have i2 : (2 : Int) ≤ (s.size : Int) := by omega
    have j1 : (1 : Int) < (s.size : Int) := by omega
    cases h60 : (s[0] == 60) with
    | false =>
      have hv : Tm.begun (L s) = 0 := by rw [hl, begun_two, if_neg (by simpa using h60)]
      rw [h60] at e60
      have HV := Lib.hid hv; clear hv hl h60 hxl
      go_enter Tryz.func78, Tryz.ntmps78
      go_wp2
      go_ret
      exact ⟨ret_int (by rw [HV.out]; rfl), Below.refl _ _⟩
    | true =>
      have hb : Tm.begun (L s) = if lr s[1] = true then 1 else if s[1] = 47 then slashed ((L s).drop 2) else if s[1] = 33 then marked ((L s).drop 2) else if s[1] = 63 then 6 else 0 := by
        conv => lhs; rw [hl]
        rw [begun_two, if_pos (by simpa using h60)]
      rw [h60] at e60
      have e47 : ((s[1].toNat : Int) == 47) = (s[1] == 47) := u8_eq (b := 47)
      have e33 : ((s[1].toNat : Int) == 33) = (s[1] == 33) := u8_eq (b := 33)
      have e63 : ((s[1].toNat : Int) == 63) = (s[1] == 63) := u8_eq (b := 63)
      have HX := Lib.hid hxl
      clear hl h60 hxl
      cases hr : lr s[1] with
      | true =>
        rw [if_pos hr] at hb
        have HV := Lib.hid hb; have HR := Lib.hid hr; clear hb hr
        go_enter Tryz.func78, Tryz.ntmps78
        go_wp2
        go_quiet (fail)
        go_wp2_with (go_at_call 100; refine (letter1 s[1] _ true HR.out).mono ?_; rintro e w' ⟨rfl, rfl⟩)
        go_ret
        exact ⟨ret_int (by rw [HV.out]; rfl), below_d _ _⟩
      | false =>
        rw [if_neg (by rw [hr]; simp)] at hb
        have HR := Lib.hid hr; clear hr
        cases h47 : (s[1] == 47) with
        | true =>
          rw [if_pos (by simpa using h47)] at hb
          rw [h47] at e47
          have HV := Lib.hid hb; clear hb h47
          go_enter Tryz.func78, Tryz.ntmps78
          go_wp2
          go_quiet (fail)
          go_wp2_with (first
            | (go_at_call 100; refine (letter1 s[1] _ false HR.out).mono ?_; rintro e w' ⟨rfl, rfl⟩)
            | (go_at_call 101; refine (slash1 _ _ _ hx HX.out).mono ?_; rintro e w' ⟨rfl, rfl⟩))
          go_ret
          exact ⟨ret_int (by rw [HV.out]), below_d _ _⟩
        | false =>
          rw [if_neg (by simpa using h47)] at hb
          rw [h47] at e47
          clear h47
          cases h33 : (s[1] == 33) with
          | true =>
            rw [if_pos (by simpa using h33)] at hb
            rw [h33] at e33
            have HV := Lib.hid hb; clear hb h33
            go_enter Tryz.func78, Tryz.ntmps78
            go_wp2
            go_quiet (fail)
            go_wp2_with (first
              | (go_at_call 100; refine (letter1 s[1] _ false HR.out).mono ?_; rintro e w' ⟨rfl, rfl⟩)
              | (go_at_call 102; refine (mark1 _ _ _ hx HX.out).mono ?_; rintro e w1 ⟨rfl, hb1⟩))
            go_ret
            exact ⟨ret_int (by rw [HV.out]), below_d2 hb1⟩
          | false =>
            rw [if_neg (by simpa using h33)] at hb
            rw [h33] at e33
            clear h33
            cases h63 : (s[1] == 63) with
            | true =>
              rw [if_pos (by simpa using h63)] at hb
              rw [h63] at e63
              have HV := Lib.hid hb; clear hb h63
              go_enter Tryz.func78, Tryz.ntmps78
              go_wp2
              go_quiet (fail)
              go_wp2_with (go_at_call 100; refine (letter1 s[1] _ false HR.out).mono ?_; rintro e w' ⟨rfl, rfl⟩)
              go_ret
              exact ⟨ret_int (by rw [HV.out]; rfl), below_d _ _⟩
            | false =>
              rw [if_neg (by simpa using h63)] at hb
              rw [h63] at e63
              have HV := Lib.hid hb; clear hb h63
              go_enter Tryz.func78, Tryz.ntmps78
              go_wp2
              go_quiet (fail)
              go_wp2_with (go_at_call 100; refine (letter1 s[1] _ false HR.out).mono ?_; rintro e w' ⟨rfl, rfl⟩)
              go_ret
              exact ⟨ret_int (by rw [HV.out]; rfl), below_d _ _⟩
  · have hd : decide ((s.size : Int) < 2) = true := decide_eq_true (by omega)
    have hv := begun_few h2
    have HV := Lib.hid hv; clear hv
    go_enter Tryz.func78, Tryz.ntmps78
    go_wp2
    go_ret
    exact ⟨ret_int (by rw [HV.out]; rfl), Below.refl _ _⟩

theorem isEnd_short {n s : ByteArray} (h : ¬ 2 + n.size < s.size) : isEnd (L n) (L s) = false := by
  unfold isEnd
  rw [size_L, drop_nil s _ h]
  simp [by1]
set_option maxHeartbeats 2000000 in
theorem isEndTag_any (s n : ByteArray) (w : World) (hs : s.size ≤ 140737488351232) (hn : n.size ≤ 140737488351232) :
    Calls Tryz.prog 97 #[.string s, .string n] w fun e w' => e = .returned (.bool (isEnd (L n) (L s))) ∧ Below w.heap.size w w' := by
  by_cases h2 : 2 + n.size < s.size
  · have hd : decide ((2 : Int) + n.size < s.size) = true := decide_eq_true (by omega)
    have hx : (s.extract 2 (2 + n.size)).size ≤ 140737488355328 := Nat.le_trans (size_extract _ _ _) (by omega)
    have i0 : (2 : Int) ≤ 2 + (n.size : Int) := by omega
    have i1 : (2 : Int) + (n.size : Int) ≤ (s.size : Int) := by omega
    have hxl : L (s.extract 2 (2 + n.size)) = ((L s).drop 2).take n.size := by rw [L_extract, Nat.add_sub_cancel_left]
    cases hp : pre [60, 47] (L s) with
    | false =>
      have hv : isEnd (L n) (L s) = false := by unfold isEnd; rw [hp]; rfl
      have HP := Lib.hid hp; have HV := Lib.hid hv; clear hp hv hxl
      go_enter Tryz.func97, Tryz.ntmps97
      go_wp2_with (go_at_call 112; refine (starts1 s _ _ [60, 47] false (by omega) (by decide) rfl HP.out).mono ?_; rintro e w' ⟨rfl, rfl⟩)
      go_ret
      exact ⟨ret_bool HV.out.symm, Below.refl _ _⟩
    | true =>
      have hsame : decide (lowL (L (s.extract 2 (2 + n.size))) = lowL (L n)) = decide (lowL (((L s).drop 2).take n.size) = lowL (L n)) := by rw [hxl]
      have hb1 : by1 en ((L s).drop (2 + n.size)) = en s[2 + n.size] := by rw [drop_cons s _ h2]; rfl
      have hv : isEnd (L n) (L s) = (decide (lowL (((L s).drop 2).take n.size) = lowL (L n)) && en s[2 + n.size]) := by unfold isEnd; rw [hp, size_L, hb1]; rfl
      cases hq : decide (lowL (((L s).drop 2).take n.size) = lowL (L n)) with
      | false =>
        rw [hq] at hv hsame
        have HP := Lib.hid hp; have HV := Lib.hid hv; have HS := Lib.hid hsame; clear hp hv hxl hsame hq hb1
        go_enter Tryz.func97, Tryz.ntmps97
        go_wp2_with (first
          | (go_at_call 112; refine (starts1 s _ _ [60, 47] true (by omega) (by decide) rfl HP.out).mono ?_; rintro e w' ⟨rfl, rfl⟩)
          | (go_at_call 113; refine (same1 _ _ w false hx (by omega) HS.out).mono ?_; rintro e w1 ⟨rfl, hb1⟩))
        go_ret
        exact ⟨ret_bool HV.out.symm, hb1⟩
      | true =>
        rw [hq] at hv hsame
        have HP := Lib.hid hp; have HV := Lib.hid hv; have HS := Lib.hid hsame; clear hp hv hxl hsame hq hb1
        go_enter Tryz.func97, Tryz.ntmps97
        go_wp2_with (first
          | (go_at_call 112; refine (starts1 s _ _ [60, 47] true (by omega) (by decide) rfl HP.out).mono ?_; rintro e w' ⟨rfl, rfl⟩)
          | (go_at_call 113; refine (same1 _ _ w true hx (by omega) HS.out).mono ?_; rintro e w1 ⟨rfl, hb1⟩)
          | (go_at_call 104; refine (endsName_any s[2 + n.size] _).mono ?_; rintro e w' ⟨rfl, rfl⟩))
        go_ret
        exact ⟨ret_bool HV.out.symm, hb1⟩
  · have hd : decide ((2 : Int) + n.size < s.size) = false := decide_eq_false (by omega)
    have hv := isEnd_short h2
    have HV := Lib.hid hv; clear hv
    go_enter Tryz.func97, Tryz.ntmps97
    go_wp2
    go_ret
    exact ⟨ret_bool HV.out.symm, Below.refl _ _⟩

end Go.Proofs.YtenmlpfjeohkiaaGreatDoor.To

namespace Go.Proofs.YtenmlpfjeohkiaaGreatDoor.To
set_option maxRecDepth 100000
set_option linter.unusedSimpArgs false
set_option linter.unusedVariables false
open Go.RowKit Ba Fm Fo Tm
theorem begun1 (s : ByteArray) (w : World) (l : List UInt8) (n : Nat) (hs : s.size ≤ 140737488355328) (hl : L s = l) (hn : Tm.begun l = n) : Calls Tryz.prog 78 #[.string s] w fun e w' => e = .returned (.int .i64 n) ∧ Below w.heap.size w w' := by
  subst hl hn
  exact begun_any s w hs
theorem endTag1 (s n : ByteArray) (w : World) (l : List UInt8) (q : Bool) (hs : s.size ≤ 140737488351232) (hn : n.size ≤ 140737488351232) (hl : L s = l) (hq : isEnd (L n) l = q) :
    Calls Tryz.prog 97 #[.string s, .string n] w fun e w' => e = .returned (.bool q) ∧ Below w.heap.size w w' := by
  subst hl hq
  exact isEndTag_any s n w hs hn
theorem rc_next {w wr w2 : World} {b k m : Nat} {s : ByteArray} {v : Value} (h : Rc wr b s m v) (hg : w.grownBy wr (some b)) (hb : Below wr.drew.heap.size wr.drew w2) : Rc w2 b s m v ∧ w.grownBy w2 (some b) :=
  ⟨(show Rc wr.drew b s m v from h).below hb, g_below (show w.grownBy wr.drew (some b) from ⟨hg.os, hg.tape, hg.output, hg.size, hg.block⟩) hb⟩

set_option maxRecDepth 100000 in
set_option maxHeartbeats 4000000 in
theorem plain_any (b k : Nat) (s : ByteArray) (v : Value) (w : World) (h : Rc w b s k v) (hk : k ≤ s.size) (hs : s.size ≤ 140737488351232) :
    Calls Tryz.prog 55 #[rp b] w fun e w' => e = .returned (.string (B (lead (bg) ((L s).drop k)))) ∧ ∃ m, m ≤ s.size ∧ (L s).drop m = trail (bg) ((L s).drop k) ∧ Rc w' b s m v ∧ w.grownBy w' (some b) := by
  have c1 := h.c1
  have hs' : s.size ≤ 140737488355328 := by omega
  go_enter Tryz.func55, Tryz.ntmps55
  go_wp2
  clear c1
  go_loopw [] (fun wr => ∃ m : Nat, Far (bg) s k m ∧ Rc wr b s m v ∧ w.grownBy wr (some b)) (fun wr => s.size - posOf wr b)
  case atStart => exact ⟨k, .start hk, h, World.grownBy.refl _ _⟩
  case round =>
    clear h
    obtain ⟨m, hf, h, hg⟩ := hrel
    have hm := hf.2.1
    have hkm := hf.1
    have c0 := h.c0; have c1 := h.c1; have f1 := h.f 1
    have hpos := h.pos
    by_cases hp : m < s.size
    · have hlt : decide ((m : Int) < s.size) = true := decide_eq_true (by omega)
      have hx : (s.extract m s.size).size ≤ 140737488351232 := Nat.le_trans (size_extract _ _ _) hs
      have hxl := L_end s m
      have i0 : (0 : Int) ≤ (m : Int) := by omega
      have i1 : (m : Int) ≤ (s.size : Int) := by omega
      cases hb : Tm.begun ((L s).drop m) with
      | zero =>
        have hf := hf.next hp (by unfold bg; rw [hb]; rfl)
        have H := Lib.hid h; have HF := Lib.hid hf; have HS := Lib.hid hb; have HP := Lib.hid hpos; have HG := Lib.hid hg; have HX := Lib.hid hxl; clear h hf hb hpos hg hxl
        go_wp2
        go_still_tail 20, (by kernel_rfl)
        change wpList _ _ _ _ _ wr.drew
        go_wp2_with fail
        refine (begun1 _ _ _ 0 (by omega) HX.out HS.out).mono ?_
        rintro e w2 ⟨rfl, hb2⟩
        obtain ⟨h2, hg2⟩ := rc_next (k := k) H.out HG.out hb2
        clear c0 c1 f1
        have c1 := h2.c1; have f1 := h2.f 1
        have H2 := Lib.hid h2; have HG2 := Lib.hid hg2; clear h2 hg2 hb2
        go_wp2
        go_roundw
        case rel => exact ⟨m + 1, HF.out, H2.out.set1 (m + 1), HG2.out.trans (g_set _ _ _ _)⟩
        case measure =>
          rw [show posOf (w2.setCell ⟨b, 1, none⟩ (.int .i64 (m + 1))) b = m + 1 from (H2.out.set1 (m + 1)).pos, HP.out]
          omega
      | succ n =>
        have hd := hf.done (.inl (by unfold bg; rw [hb]; rfl))
        have H := Lib.hid h; have HD := Lib.hid hd; have HS := Lib.hid hb; have HG := Lib.hid hg; have HX := Lib.hid hxl; clear h hf hb hpos hg hd hxl
        have hn0 : ((n + 1 : Nat) : Int) ≠ 0 := by omega
        have hn1 : (((n + 1 : Nat) : Int) == 0) = false := by simpa using hn0
        generalize hN : n + 1 = N at *
        go_wp2
        go_still_tail 20, (by kernel_rfl)
        change wpList _ _ _ _ _ wr.drew
        go_wp2_with fail
        refine (begun1 _ _ _ N (by omega) HX.out HS.out).mono ?_
        rintro e w2 ⟨rfl, hb2⟩
        obtain ⟨h2, hg2⟩ := rc_next (k := k) H.out HG.out hb2
        clear c0 c1 f1
        have c0 := h2.c0; have c1 := h2.c1
        have H2 := Lib.hid h2; have HG2 := Lib.hid hg2; clear h2 hg2 hb2
        go_wp2
        go_quiet (fail)
        go_wp2
        go_ret
        exact ⟨ret_str HD.out.1, m, hm, HD.out.2, H2.out, HG2.out.trans (g_dN _ _ _)⟩
    · have hlt : decide ((m : Int) < s.size) = false := decide_eq_false (by omega)
      have hd := hf.done (.inr hp)
      have H := Lib.hid h; have HD := Lib.hid hd; have HG := Lib.hid hg; clear h hf hpos hg hd
      go_wp2
      go_quiet (fail)
      go_wp2
      go_quiet (fail)
      go_wp2
      go_ret
      exact ⟨ret_str HD.out.1, m, hm, HD.out.2, H.out, (HG.out.trans (g_dN _ _ _)).trans (g_dN _ _ _)⟩

set_option maxRecDepth 100000 in
set_option maxHeartbeats 4000000 in
theorem upToEnd_any (b k : Nat) (s : ByteArray) (v : Value) (nm : ByteArray) (hnm : nm.size ≤ 140737488351232) (w : World) (h : Rc w b s k v) (hk : k ≤ s.size) (hs : s.size ≤ 140737488351232) :
    Calls Tryz.prog 76 #[rp b, .string nm] w fun e w' => e = .returned (.string (B (lead (isEnd (L nm)) ((L s).drop k)))) ∧ ∃ m, m ≤ s.size ∧ (L s).drop m = trail (isEnd (L nm)) ((L s).drop k) ∧ Rc w' b s m v ∧ w.grownBy w' (some b) := by
  have c1 := h.c1
  have hs' : s.size ≤ 140737488355328 := by omega
  go_enter Tryz.func76, Tryz.ntmps76
  go_wp2
  clear c1
  go_loopw [] (fun wr => ∃ m : Nat, Far (isEnd (L nm)) s k m ∧ Rc wr b s m v ∧ w.grownBy wr (some b)) (fun wr => s.size - posOf wr b)
  case atStart => exact ⟨k, .start hk, h, World.grownBy.refl _ _⟩
  case round =>
    clear h
    obtain ⟨m, hf, h, hg⟩ := hrel
    have hm := hf.2.1
    have hkm := hf.1
    have c0 := h.c0; have c1 := h.c1; have f1 := h.f 1
    have hpos := h.pos
    by_cases hp : m < s.size
    · have hlt : decide ((m : Int) < s.size) = true := decide_eq_true (by omega)
      have hx : (s.extract m s.size).size ≤ 140737488351232 := Nat.le_trans (size_extract _ _ _) hs
      have hxl := L_end s m
      have i0 : (0 : Int) ≤ (m : Int) := by omega
      have i1 : (m : Int) ≤ (s.size : Int) := by omega
      cases hb : isEnd (L nm) ((L s).drop m) with
      | false =>
        have hf := hf.next hp (hb)
        have H := Lib.hid h; have HF := Lib.hid hf; have HS := Lib.hid hb; have HP := Lib.hid hpos; have HG := Lib.hid hg; have HX := Lib.hid hxl; clear h hf hb hpos hg hxl
        go_wp2
        go_still_tail 21, (by kernel_rfl)
        change wpList _ _ _ _ _ wr.drew
        go_wp2_with fail
        refine (endTag1 _ _ _ _ false hx hnm HX.out HS.out).mono ?_
        rintro e w2 ⟨rfl, hb2⟩
        obtain ⟨h2, hg2⟩ := rc_next (k := k) H.out HG.out hb2
        clear c0 c1 f1
        have c1 := h2.c1; have f1 := h2.f 1
        have H2 := Lib.hid h2; have HG2 := Lib.hid hg2; clear h2 hg2 hb2
        go_wp2
        go_roundw
        case rel => exact ⟨m + 1, HF.out, H2.out.set1 (m + 1), HG2.out.trans (g_set _ _ _ _)⟩
        case measure =>
          rw [show posOf (w2.setCell ⟨b, 1, none⟩ (.int .i64 (m + 1))) b = m + 1 from (H2.out.set1 (m + 1)).pos, HP.out]
          omega
      | true =>
        have hd := hf.done (.inl (hb))
        have H := Lib.hid h; have HD := Lib.hid hd; have HS := Lib.hid hb; have HG := Lib.hid hg; have HX := Lib.hid hxl; clear h hf hb hpos hg hd hxl
        
        
        
        go_wp2
        go_still_tail 21, (by kernel_rfl)
        change wpList _ _ _ _ _ wr.drew
        go_wp2_with fail
        refine (endTag1 _ _ _ _ true hx hnm HX.out HS.out).mono ?_
        rintro e w2 ⟨rfl, hb2⟩
        obtain ⟨h2, hg2⟩ := rc_next (k := k) H.out HG.out hb2
        clear c0 c1 f1
        have c0 := h2.c0; have c1 := h2.c1
        have H2 := Lib.hid h2; have HG2 := Lib.hid hg2; clear h2 hg2 hb2
        go_wp2
        go_quiet (fail)
        go_wp2
        go_ret
        exact ⟨ret_str HD.out.1, m, hm, HD.out.2, H2.out, HG2.out.trans (g_dN _ _ _)⟩
    · have hlt : decide ((m : Int) < s.size) = false := decide_eq_false (by omega)
      have hd := hf.done (.inr hp)
      have H := Lib.hid h; have HD := Lib.hid hd; have HG := Lib.hid hg; clear h hf hpos hg hd
      go_wp2
      go_quiet (fail)
      go_wp2
      go_quiet (fail)
      go_wp2
      go_ret
      exact ⟨ret_str HD.out.1, m, hm, HD.out.2, H.out, (HG.out.trans (g_dN _ _ _)).trans (g_dN _ _ _)⟩

end Go.Proofs.YtenmlpfjeohkiaaGreatDoor.To

namespace Go.Proofs.YtenmlpfjeohkiaaGreatDoor.Fo
set_option linter.unusedSimpArgs false
set_option linter.unusedVariables false
open Go.RowKit Ba Fm
theorem has_snoc (l : List ByteArray) (s : ByteArray) (k : Nat) (h : k < l.length) (hn : ¬ s ∈ l.take k) (he : l[k] ≠ s) : ¬ s ∈ l.take (k + 1) := by
  rw [List.take_succ_eq_append_getElem h, List.mem_append]
  rintro (h' | h')
  · exact hn h'
  · exact he (List.mem_singleton.1 h').symm

end Go.Proofs.YtenmlpfjeohkiaaGreatDoor.Fo

namespace Go.Proofs.YtenmlpfjeohkiaaGreatDoor.Na
set_option maxRecDepth 100000
set_option linter.unusedSimpArgs false
set_option linter.unusedVariables false
open Go.RowKit Ba Fm Fo Nm
set_option maxHeartbeats 400000 in
theorem among_any (A : Option Addr) (c N : Nat) (l : List ByteArray) (s : ByteArray) (w : World) (hr : Rd w N A l) (hl : l.length ≤ 8796093022208) :
    Calls Tryz.prog 46 #[.string s, .slice A l.length c] w fun e w' => e = .returned (.bool (isIn s l)) ∧ w = w' := by
  go_enter Tryz.func46, Tryz.ntmps46
  go_wp2
  go_loop [9] (fun i => ∃ k : Nat, i = .int .i64 k ∧ k ≤ l.length ∧ ¬ s ∈ l.take k) (fun i => l.length - (intOf i).toNat)
  case atStart => exact ⟨0, rfl, Nat.zero_le _, by simp⟩
  case round =>
    obtain ⟨k, rfl, hks, hn⟩ := hrel
    have HN := Lib.hid hn; clear hn
    by_cases hp : k < l.length
    · obtain ⟨b, off, rfl, _, hc⟩ := hr (by omega)
      have hcell := hc k hp
      clear hc hr
      have heq := eq_of_toList (a := l[k]) (b := s)
      by_cases he : l[k] = s
      · rw [decide_eq_true he] at heq
        have HE := Lib.hid he; clear he
        go_wp2
        go_ret
        exact ⟨ret_bool (isIn_yes (by have := HE.out; rw [← this]; exact List.getElem_mem _)).symm, rfl⟩
      · rw [decide_eq_false he] at heq
        have HE := Lib.hid he; clear he
        go_wp2
        go_round
        case rel => exact ⟨k + 1, by go_num, by omega, has_snoc l s k hp HN.out HE.out⟩
        case measure => simp [intOf]; omega
    · go_wp2
      go_ret
      refine ⟨ret_bool (isIn_no ?_).symm, rfl⟩
      have := HN.out
      rwa [List.take_of_length_le (by omega)] at this

theorem amongLit (w : World) (l : List ByteArray) (s : ByteArray) (hl : l.length ≤ 1000) :
    Calls Tryz.prog 46 #[.string s, .slice (some ⟨w.heap.size, 0, none⟩) l.length l.length] (w.alloc (.cells (l.map sc).toArray 9)) fun e w' => e = .returned (.bool (isIn s l)) ∧ w.alloc (.cells (l.map sc).toArray 9) = w' :=
  among_any _ _ _ l s _ (sv_lit w l).rd (by omega)
theorem sown_lit (w : World) (l : List ByteArray) (hl : l.length ≤ 1000) : Sown w.heap.size (w.alloc (.cells (l.map sc).toArray 9)) (.slice (some ⟨w.heap.size, 0, none⟩) l.length l.length) l :=
  World.ownsRow_lit w (l.map sc).toArray l.length (Nat.le_refl _) (by unfold maxLen; omega) (by simp)

theorem raw_lit (w : World) (s : ByteArray) :
    Calls Tryz.prog 46 #[.string s, .slice (some ⟨w.heap.size, 0, none⟩) 6 6] (w.alloc (.cells #[.string ⟨#[105, 102, 114, 97, 109, 101]⟩, .string ⟨#[110, 111, 101, 109, 98, 101, 100]⟩, .string ⟨#[110, 111, 102, 114, 97, 109, 101, 115]⟩, .string ⟨#[115, 99, 114, 105, 112, 116]⟩, .string ⟨#[115, 116, 121, 108, 101]⟩, .string ⟨#[120, 109, 112]⟩] 9)) fun e w' => e = .returned (.bool (isIn s rawL)) ∧ w.alloc (.cells #[.string ⟨#[105, 102, 114, 97, 109, 101]⟩, .string ⟨#[110, 111, 101, 109, 98, 101, 100]⟩, .string ⟨#[110, 111, 102, 114, 97, 109, 101, 115]⟩, .string ⟨#[115, 99, 114, 105, 112, 116]⟩, .string ⟨#[115, 116, 121, 108, 101]⟩, .string ⟨#[120, 109, 112]⟩] 9) = w' := amongLit w rawL s (by decide)
set_option maxHeartbeats 1000000 in
theorem raw_any (s : ByteArray) (w : World) : Calls Tryz.prog 25 #[.string s] w fun e w' => e = .returned (.bool (isIn s rawL)) ∧ Below w.heap.size w w' := by
  go_enter Tryz.func25, Tryz.ntmps25
  go_wp2_with fail
  refine (raw_lit w s).mono ?_
  rintro e w1 ⟨rfl, rfl⟩
  go_wp2
  go_ret
  exact ⟨rfl, below_one w _⟩
theorem soft_lit (w : World) (s : ByteArray) :
    Calls Tryz.prog 46 #[.string s, .slice (some ⟨w.heap.size, 0, none⟩) 2 2] (w.alloc (.cells #[.string ⟨#[116, 101, 120, 116, 97, 114, 101, 97]⟩, .string ⟨#[116, 105, 116, 108, 101]⟩] 9)) fun e w' => e = .returned (.bool (isIn s softL)) ∧ w.alloc (.cells #[.string ⟨#[116, 101, 120, 116, 97, 114, 101, 97]⟩, .string ⟨#[116, 105, 116, 108, 101]⟩] 9) = w' := amongLit w softL s (by decide)
set_option maxHeartbeats 1000000 in
theorem soft_any (s : ByteArray) (w : World) : Calls Tryz.prog 44 #[.string s] w fun e w' => e = .returned (.bool (isIn s softL)) ∧ Below w.heap.size w w' := by
  go_enter Tryz.func44, Tryz.ntmps44
  go_wp2_with fail
  refine (soft_lit w s).mono ?_
  rintro e w1 ⟨rfl, rfl⟩
  go_wp2
  go_ret
  exact ⟨rfl, below_one w _⟩
end Go.Proofs.YtenmlpfjeohkiaaGreatDoor.Na
