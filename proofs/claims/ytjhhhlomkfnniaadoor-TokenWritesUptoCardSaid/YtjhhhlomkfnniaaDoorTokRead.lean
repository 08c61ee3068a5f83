/-
  Walks of stage 6: the reader in memory; pass, skipSpaces. Walks of stage 6: what ends a name or a value, starts, upTo, quoted, value. Walks of stage 6: quoted, value, attr of the reader. Walks of stage 6: attr of the reader.
-/
import Derived.Test.YtjhhhlomkfnniaaDoorTokOwn
import Derived.Test.YtjhhhlomkfnniaaDoorFoldLow
import Derived.Test.YtjhhhlomkfnniaaDoorRefsWalkG
import Derived.StillTailTactics
import Derived.Deep.CutRange
import Derived.Deep.RegionHeld3
namespace Go.Proofs.YtjhhhlomkfnniaaDoor.To
set_option linter.unusedSimpArgs false
set_option linter.unusedVariables false
open Go.RowKit Ba Fm Fo Tm

/-- Block b is a reader: its text, its place, what it has so far. -/
def Rc (w : World) (b : Nat) (s : ByteArray) (k : Nat) (v : Value) : Prop := w.heap[b]? = some (.cells #[.string s, .int .i64 k, v] 47)
theorem Rc.c0 {w : World} {b k : Nat} {s : ByteArray} {v : Value} (h : Rc w b s k v) : w.cell? ⟨b, 0, none⟩ = some (.string s) := by rw [cell_of_row w b 0 _ _ _ h]; rfl
theorem Rc.c1 {w : World} {b k : Nat} {s : ByteArray} {v : Value} (h : Rc w b s k v) : w.cell? ⟨b, 1, none⟩ = some (.int .i64 k) := by rw [cell_of_row w b 1 _ _ _ h]; rfl
theorem Rc.c2 {w : World} {b k : Nat} {s : ByteArray} {v : Value} (h : Rc w b s k v) : w.cell? ⟨b, 2, none⟩ = some v := by rw [cell_of_row w b 2 _ _ _ h]; rfl
theorem Rc.f {w : World} {b k : Nat} {s : ByteArray} {v : Value} (h : Rc w b s k v) (j : Nat) : w.frozen? ⟨b, j, none⟩ = false := by
  unfold Rc at h
  simp [World.frozen?, h]
theorem Rc.lt {w : World} {b k : Nat} {s : ByteArray} {v : Value} (h : Rc w b s k v) : b < w.heap.size := (Array.getElem?_eq_some_iff.1 h).1
theorem Rc.set1 {w : World} {b k : Nat} {s : ByteArray} {v : Value} (h : Rc w b s k v) (m : Nat) : Rc (w.setCell ⟨b, 1, none⟩ (.int .i64 m)) b s m v := by
  unfold Rc at h ⊢
  simp [World.setCell, Array.getElem?_modify, h]
theorem Rc.set2 {w : World} {b k : Nat} {s : ByteArray} {v : Value} (h : Rc w b s k v) (u : Value) : Rc (w.setCell ⟨b, 2, none⟩ u) b s k u := by
  unfold Rc at h ⊢
  simp [World.setCell, Array.getElem?_modify, h]
theorem Rc.drew {w : World} {b k : Nat} {s : ByteArray} {v : Value} (h : Rc w b s k v) (n : Nat) : Rc (w.drewN n) b s k v := h
theorem Rc.below {w w' : World} {b k : Nat} {s : ByteArray} {v : Value} (h : Rc w b s k v) (hb : Below w.heap.size w w') : Rc w' b s k v := (hb.block b h.lt).trans h
abbrev rp (b : Nat) : Value := .pointer (some ⟨b, 0, none⟩)

theorem g_dN (w : World) (n : Nat) (row : Option Nat) : w.grownBy (w.drewN n) row := ⟨rfl, rfl, rfl, Nat.le_refl _, fun _ _ _ => rfl⟩
theorem g_set (w : World) (b j : Nat) (u : Value) : w.grownBy (w.setCell ⟨b, j, none⟩ u) (some b) :=
  ⟨rfl, rfl, rfl, by simp [World.setCell], fun k _ hk => Below.heap_setCell _ _ _ _ (fun e => hk (by simp [e]))⟩

/-- A callee that only reads, within a region that draws. -/
theorem quietB {P : Program} {f : FuncId} {args : Array Value} {w : World} {n : Nat} {u v : Bool}
    (h : Calls P f args (w.drewN n) fun e w' => e = .returned (.bool u) ∧ w.drewN n = w') (hu : u = v) : Calls P f args (w.drewN n) fun e w'' => e = .returned (.bool v) ∧ ∃ m, w'' = w.drewN m :=
  h.mono fun _ _ ⟨he, hm⟩ => ⟨by rw [he, hu], n, hm.symm⟩

/-- Does the rest begin with this byte? -/
def hd (c : UInt8) (l : List UInt8) : Bool := by1 (is c) l

set_option maxHeartbeats 1000000 in
theorem pass_any (b k : Nat) (s : ByteArray) (v : Value) (c : UInt8) (w : World) (h : Rc w b s k v) (hk : k ≤ s.size) (hs : s.size ≤ 140737488355328) :
    Calls Tryd.prog 66 #[rp b, .int .u8 c.toNat] w fun e w' => e = .returned (.bool (hd c ((L s).drop k))) ∧ Rc w' b s (k + (hd c ((L s).drop k)).toNat) v ∧ w.grownBy w' (some b) := by
  have c0 := h.c0; have c1 := h.c1; have f1 := h.f 1
  by_cases hp : k < s.size
  · rw [drop_cons s k hp]
    have hlt : decide ((k : Int) < s.size) = true := decide_eq_true (by omega)
    have he := u8_eq (a := s[k]) (b := c)
    cases hq : (s[k] == c) with
    | true =>
      rw [hq] at he
      have hr : hd c (s[k] :: (L s).drop (k + 1)) = true := hq
      rw [hr]
      have H := Lib.hid h; clear h hr hq
      go_enter Tryd.func66, Tryd.ntmps66
      go_wp2
      go_quiet (fail)
      go_wp2
      go_ret
      exact ⟨rfl, H.out.set1 (k + 1), (g_dN _ _ _).trans (g_set _ _ _ _)⟩
    | false =>
      rw [hq] at he
      have hr : hd c (s[k] :: (L s).drop (k + 1)) = false := hq
      rw [hr]
      have H := Lib.hid h; clear h hr hq
      go_enter Tryd.func66, Tryd.ntmps66
      go_wp2
      go_quiet (fail)
      go_wp2
      go_ret
      exact ⟨rfl, H.out, g_dN _ _ _⟩
  · have hlt : decide ((k : Int) < s.size) = false := decide_eq_false (by omega)
    rw [drop_nil s k hp]
    have H := Lib.hid h; clear h
    go_enter Tryd.func66, Tryd.ntmps66
    go_wp2
    go_quiet (fail)
    go_wp2
    go_ret
    exact ⟨rfl, H.out, g_dN _ _ _⟩

/-- Where the reader in block b stands. -/
def posOf (w : World) (b : Nat) : Nat := match w.cell? ⟨b, 1, none⟩ with | some v => (intOf v).toNat | none => 0
theorem Rc.pos {w : World} {b k : Nat} {s : ByteArray} {v : Value} (h : Rc w b s k v) : posOf w b = k := by
  unfold posOf
  rw [h.c1]
  simp [intOf]

set_option maxHeartbeats 1000000 in
theorem skip_any (b k : Nat) (s : ByteArray) (v : Value) (w : World) (h : Rc w b s k v) (hk : k ≤ s.size) (hs : s.size ≤ 140737488355328) :
    Calls Tryd.prog 106 #[rp b] w fun e w' => e = .returned (.tuple #[]) ∧ ∃ m, m ≤ s.size ∧ (L s).drop m = trimS ((L s).drop k) ∧ Rc w' b s m v ∧ w.grownBy w' (some b) := by
  go_enter Tryd.func106, Tryd.ntmps106
  go_wp2
  go_loopw [] (fun wr => ∃ m : Nat, m ≤ s.size ∧ trimS ((L s).drop m) = trimS ((L s).drop k) ∧ Rc wr b s m v ∧ w.grownBy wr (some b)) (fun wr => s.size - posOf wr b)
  case atStart => exact ⟨k, hk, rfl, h, World.grownBy.refl _ _⟩
  case round =>
    clear h
    obtain ⟨m, hm, ht, h, hg⟩ := hrel
    have c0 := h.c0; have c1 := h.c1; have f1 := h.f 1
    have hpos := h.pos
    by_cases hp : m < s.size
    · rw [drop_cons s m hp] at ht
      have hlt : decide ((m : Int) < s.size) = true := decide_eq_true (by omega)
      cases hsp : sp s[m] with
      | true =>
        rw [trimS_sp _ hsp] at ht
        have H := Lib.hid h; have HT := Lib.hid ht; have HS := Lib.hid hsp; have HP := Lib.hid hpos; have HG := Lib.hid hg; clear h ht hsp hpos hg
        go_wp2
        go_quiet (exact quietB (space_any s[m] _) HS.out)
        go_wp2
        go_roundw
        case rel => exact ⟨m + 1, by omega, HT.out, H.out.set1 (m + 1), (HG.out.trans (g_dN _ _ _)).trans (g_set _ _ _ _)⟩
        case measure =>
          rw [show posOf ((wr.drewN nq).setCell ⟨b, 1, none⟩ (.int .i64 (m + 1))) b = m + 1 from ((H.out.drew nq).set1 (m + 1)).pos, HP.out]
          omega
      | false =>
        rw [trimS_no _ hsp, ← drop_cons s m hp] at ht
        have H := Lib.hid h; have HT := Lib.hid ht; have HS := Lib.hid hsp; have HG := Lib.hid hg; clear h ht hsp hpos hg
        go_wp2
        go_quiet (exact quietB (space_any s[m] _) HS.out)
        go_wp2
        go_end0
        exact ⟨rfl, m, hm, HT.out, H.out, HG.out.trans (g_dN _ _ _)⟩
    · have hlt : decide ((m : Int) < s.size) = false := decide_eq_false (by omega)
      rw [drop_nil s m hp, trimS_nil] at ht
      have H := Lib.hid h; have HT := Lib.hid ht; have HG := Lib.hid hg; clear h ht hpos hg
      go_wp2
      go_quiet (fail)
      go_wp2
      go_end0
      exact ⟨rfl, m, hm, by rw [← HT.out, drop_nil s m hp], H.out, HG.out.trans (g_dN _ _ _)⟩

end Go.Proofs.YtjhhhlomkfnniaaDoor.To

namespace Go.Proofs.YtjhhhlomkfnniaaDoor.To
set_option linter.unusedSimpArgs false
set_option linter.unusedVariables false
open Go.RowKit Ba Fm Fo Tm

theorem closes_any (c : UInt8) (w : World) : Calls Tryd.prog 65 #[.int .u8 c.toNat] w fun e w' => e = .returned (.bool (gt c)) ∧ w = w' := by
  have e62 : ((c.toNat : Int) == 62) = (c == 62) := u8_eq (b := 62)
  obtain ⟨q, hq⟩ : ∃ q, (c == 62) = q := ⟨_, rfl⟩
  rw [hq] at e62
  have hg : gt c = q := hq
  have HG := Lib.hid hg; clear hg hq
  go_enter Tryd.func65, Tryd.ntmps65
  go_wp2
  go_ret
  exact ⟨ret_bool HG.out.symm, rfl⟩

theorem endsValue_any (c : UInt8) (w : World) : Calls Tryd.prog 97 #[.int .u8 c.toNat] w fun e w' => e = .returned (.bool (ev c)) ∧ w = w' := by
  have e0 : ((c.toNat : Int) == 62) = (c == 62) := u8_eq (b := 62)
  cases hq : (c == 62) with
  | true =>
    rw [hq] at e0
    have hg : ev c = true := by unfold ev; rw [hq]; rfl
    have HG := Lib.hid hg; clear hg hq
    go_enter Tryd.func97, Tryd.ntmps97
    go_wp2
    go_ret
    exact ⟨ret_bool HG.out.symm, rfl⟩
  | false =>
    rw [hq] at e0
    have hg : ev c = sp c := by unfold ev; rw [hq]; rfl
    have HG := Lib.hid hg; clear hg hq
    go_enter Tryd.func97, Tryd.ntmps97
    go_wp2_with (go_at_call 71; refine (space_any c _).mono ?_; rintro e w' ⟨rfl, rfl⟩)
    go_ret
    exact ⟨ret_bool HG.out.symm, rfl⟩

theorem endsName_any (c : UInt8) (w : World) : Calls Tryd.prog 83 #[.int .u8 c.toNat] w fun e w' => e = .returned (.bool (en c)) ∧ w = w' := by
  have e0 : ((c.toNat : Int) == 47) = (c == 47) := u8_eq (b := 47)
  cases hq : (c == 47) with
  | true =>
    rw [hq] at e0
    have hg : en c = true := by unfold en; rw [hq]; rfl
    have HG := Lib.hid hg; clear hg hq
    go_enter Tryd.func83, Tryd.ntmps83
    go_wp2
    go_ret
    exact ⟨ret_bool HG.out.symm, rfl⟩
  | false =>
    rw [hq] at e0
    have hg : en c = ev c := by unfold en; rw [hq]; rfl
    have HG := Lib.hid hg; clear hg hq
    go_enter Tryd.func83, Tryd.ntmps83
    go_wp2_with (go_at_call 97; refine (endsValue_any c _).mono ?_; rintro e w' ⟨rfl, rfl⟩)
    go_ret
    exact ⟨ret_bool HG.out.symm, rfl⟩

theorem endsAttr_any (c : UInt8) (w : World) : Calls Tryd.prog 105 #[.int .u8 c.toNat] w fun e w' => e = .returned (.bool (ea c)) ∧ w = w' := by
  have e0 : ((c.toNat : Int) == 61) = (c == 61) := u8_eq (b := 61)
  cases hq : (c == 61) with
  | true =>
    rw [hq] at e0
    have hg : ea c = true := by unfold ea; rw [hq]; rfl
    have HG := Lib.hid hg; clear hg hq
    go_enter Tryd.func105, Tryd.ntmps105
    go_wp2
    go_ret
    exact ⟨ret_bool HG.out.symm, rfl⟩
  | false =>
    rw [hq] at e0
    have hg : ea c = en c := by unfold ea; rw [hq]; rfl
    have HG := Lib.hid hg; clear hg hq
    go_enter Tryd.func105, Tryd.ntmps105
    go_wp2_with (go_at_call 83; refine (endsName_any c _).mono ?_; rintro e w' ⟨rfl, rfl⟩)
    go_ret
    exact ⟨ret_bool HG.out.symm, rfl⟩

theorem quote_any (c q : UInt8) (g : Nat) (w : World) (h : w.cell? ⟨g, 0, none⟩ = some (.int .u8 q.toNat)) :
    Calls Tryd.prog 109 #[.int .u8 c.toNat, .pointer (some ⟨g, 0, none⟩)] w fun e w' => e = .returned (.bool (is q c)) ∧ w = w' := by
  have e0 : ((c.toNat : Int) == (q.toNat : Int)) = is q c := u8_eq
  obtain ⟨u, hu⟩ : ∃ u, is q c = u := ⟨_, rfl⟩
  rw [hu] at e0
  have HU := Lib.hid hu; clear hu
  go_enter Tryd.func109, Tryd.ntmps109
  go_wp2
  go_ret
  exact ⟨ret_bool HU.out.symm, rfl⟩

theorem size_pre (s t : ByteArray) (h : t.size ≤ s.size) : (s.extract 0 t.size).size = t.size := by
  rw [← size_L, L_extract, List.length_take, List.length_drop, size_L]
  omega
theorem pre_yes (s t : ByteArray) : ((s.extract 0 t.size).toList == t.toList) = pre (L t) (L s) := by
  rw [eq_of_toList]
  unfold pre
  refine decide_eq_decide.2 ?_
  rw [size_L]
  constructor
  · intro e
    have := congrArg L e
    rwa [L_extract, Nat.sub_zero, List.drop_zero] at this
  · intro e
    apply L_inj
    rwa [L_extract, Nat.sub_zero, List.drop_zero]
theorem pre_short (s t : ByteArray) (h : ¬ t.size ≤ s.size) : pre (L t) (L s) = false := by
  unfold pre
  refine decide_eq_false fun e => ?_
  have := congrArg List.length e
  rw [List.length_take, size_L, size_L] at this
  omega
set_option maxHeartbeats 1000000 in
theorem starts_any (s t : ByteArray) (w : World) (hs : s.size ≤ 140737488355328) (ht : t.size ≤ 140737488355328) :
    Calls Tryd.prog 91 #[.string s, .string t] w fun e w' => e = .returned (.bool (pre (L t) (L s))) ∧ w = w' := by
  by_cases hp : t.size ≤ s.size
  · have hd : decide ((t.size : Int) ≤ s.size) = true := decide_eq_true (by omega)
    have he := pre_yes s t
    obtain ⟨q, hq⟩ : ∃ q, pre (L t) (L s) = q := ⟨_, rfl⟩
    rw [hq] at he
    have HQ := Lib.hid hq; clear hq
    go_enter Tryd.func91, Tryd.ntmps91
    go_wp2
    go_ret
    exact ⟨ret_bool HQ.out.symm, rfl⟩
  · have hd : decide ((t.size : Int) ≤ s.size) = false := decide_eq_false (by omega)
    have hq := pre_short s t hp
    have HQ := Lib.hid hq; clear hq
    go_enter Tryd.func91, Tryd.ntmps91
    go_wp2
    go_ret
    exact ⟨ret_bool HQ.out.symm, rfl⟩

theorem by1_at (q : UInt8 → Bool) (s : ByteArray) (k : Nat) (h : k < s.size) (b : Bool) (hb : q s[k] = b) : by1 q ((L s).drop k) = b := by
  rw [drop_cons s k h]
  exact hb
theorem lead_at {p : List UInt8 → Bool} {s : ByteArray} {k : Nat} (h : k < s.size) (hp : p ((L s).drop k) = false) : lead p ((L s).drop k) = s[k] :: lead p ((L s).drop (k + 1)) ∧ trail p ((L s).drop k) = trail p ((L s).drop (k + 1)) := by
  rw [drop_cons s k h] at hp ⊢
  exact ⟨lead_no hp, trail_no hp⟩
theorem lead_end {p : List UInt8 → Bool} {s : ByteArray} {k : Nat} (hp : p ((L s).drop k) = true ∨ ¬ k < s.size) : lead p ((L s).drop k) = [] ∧ trail p ((L s).drop k) = (L s).drop k := by
  by_cases h : k < s.size
  · have hp := hp.resolve_right (by omega)
    rw [drop_cons s k h] at hp ⊢
    exact ⟨lead_yes hp, trail_yes hp⟩
  · rw [drop_nil s k h]
    exact ⟨rfl, rfl⟩
/-- How far a search has come. -/
def Far (p : List UInt8 → Bool) (s : ByteArray) (k m : Nat) : Prop := k ≤ m ∧ m ≤ s.size ∧ lead p ((L s).drop k) = ((L s).drop k).take (m - k) ++ lead p ((L s).drop m) ∧ trail p ((L s).drop k) = trail p ((L s).drop m)
theorem Far.start {p : List UInt8 → Bool} {s : ByteArray} {k : Nat} (h : k ≤ s.size) : Far p s k k := ⟨Nat.le_refl _, h, by simp, rfl⟩
theorem Far.next {p : List UInt8 → Bool} {s : ByteArray} {k m : Nat} (h : Far p s k m) (hm : m < s.size) (hp : p ((L s).drop m) = false) : Far p s k (m + 1) := by
  obtain ⟨h1, h2, h3, h4⟩ := h
  obtain ⟨a1, a2⟩ := lead_at hm hp
  refine ⟨by omega, by omega, ?_, h4.trans a2⟩
  rw [h3, a1]
  have e : ((L s).drop k).take (m + 1 - k) = ((L s).drop k).take (m - k) ++ [s[m]] := by
    rw [show m + 1 - k = (m - k) + 1 from by omega, List.take_succ_eq_append_getElem (by rw [List.length_drop, size_L]; omega)]
    congr 2
    rw [List.getElem_drop]
    simp [show k + (m - k) = m from by omega]
    rfl
  rw [e, List.append_assoc]
  rfl
/-- Where a search ends. -/
theorem Far.done {p : List UInt8 → Bool} {s : ByteArray} {k m : Nat} (h : Far p s k m) (hp : p ((L s).drop m) = true ∨ ¬ m < s.size) : s.extract k m = B (lead p ((L s).drop k)) ∧ (L s).drop m = trail p ((L s).drop k) := by
  obtain ⟨h1, h2, h3, h4⟩ := h
  obtain ⟨a1, a2⟩ := lead_end hp
  refine ⟨B_of ?_, (h4.trans a2).symm⟩
  rw [L_extract, h3, a1, List.append_nil]

set_option maxHeartbeats 1000000 in
theorem upTo_gt (b k : Nat) (s : ByteArray) (v : Value) (w : World) (h : Rc w b s k v) (hk : k ≤ s.size) (hs : s.size ≤ 140737488355328) :
    Calls Tryd.prog 64 #[rp b, .func (.func 65) #[] #[]] w fun e w' => e = .returned (.string (B (upTo (gt) ((L s).drop k)))) ∧ ∃ m, m ≤ s.size ∧ (L s).drop m = from_ (gt) ((L s).drop k) ∧ Rc w' b s m v ∧ w.grownBy w' (some b) := by
  have c1 := h.c1
  go_enter Tryd.func64, Tryd.ntmps64
  go_wp2
  clear c1
  go_loopw [] (fun wr => ∃ m : Nat, Far (by1 (gt)) s k m ∧ Rc wr b s m v ∧ w.grownBy wr (some b)) (fun wr => s.size - posOf wr b)
  case atStart => exact ⟨k, .start hk, h, World.grownBy.refl _ _⟩
  case round =>
    clear h
    obtain ⟨m, hf, h, hg⟩ := hrel
    have hm := hf.2.1
    have hkm := hf.1
    have c0 := h.c0; have c1 := h.c1; have f1 := h.f 1
    have hpos := h.pos
    
    by_cases hp : m < s.size
    · have hlt : decide ((m : Int) < s.size) = true := decide_eq_true (by omega)
      cases hsp : (gt) s[m] with
      | false =>
        have hf := hf.next hp (by1_at _ s m hp false hsp)
        have H := Lib.hid h; have HF := Lib.hid hf; have HS := Lib.hid hsp; have HP := Lib.hid hpos; have HG := Lib.hid hg; clear h hf hsp hpos hg
        go_wp2
        go_quiet (exact quietB (closes_any s[m] _) HS.out)
        go_wp2
        go_roundw
        case rel => exact ⟨m + 1, HF.out, H.out.set1 (m + 1), (HG.out.trans (g_dN _ _ _)).trans (g_set _ _ _ _)⟩
        case measure =>
          rw [show posOf ((wr.drewN nq).setCell ⟨b, 1, none⟩ (.int .i64 (m + 1))) b = m + 1 from ((H.out.drew nq).set1 (m + 1)).pos, HP.out]
          omega
      | true =>
        have hd := hf.done (.inl (by1_at _ s m hp true hsp))
        have H := Lib.hid h; have HD := Lib.hid hd; have HS := Lib.hid hsp; have HG := Lib.hid hg; clear h hf hsp hpos hg hd
        go_wp2
        go_quiet (exact quietB (closes_any s[m] _) HS.out)
        go_wp2
        go_quiet (fail)
        go_wp2
        go_ret
        exact ⟨ret_str HD.out.1, m, hm, HD.out.2, H.out, (HG.out.trans (g_dN _ _ _)).trans (g_dN _ _ _)⟩
    · have hlt : decide ((m : Int) < s.size) = false := decide_eq_false (by omega)
      have hd := hf.done (.inr hp)
      have H := Lib.hid h; have HD := Lib.hid hd; have HG := Lib.hid hg; clear h hf hpos hg hd
      go_wp2
      go_quiet (fail)
      go_wp2
      go_quiet (fail)
      go_wp2
      go_ret
      exact ⟨ret_str HD.out.1, m, hm, HD.out.2, H.out, (HG.out.trans (g_dN _ _ _)).trans (g_dN _ _ _)⟩

set_option maxHeartbeats 1000000 in
theorem upTo_en (b k : Nat) (s : ByteArray) (v : Value) (w : World) (h : Rc w b s k v) (hk : k ≤ s.size) (hs : s.size ≤ 140737488355328) :
    Calls Tryd.prog 64 #[rp b, .func (.func 83) #[] #[]] w fun e w' => e = .returned (.string (B (upTo (en) ((L s).drop k)))) ∧ ∃ m, m ≤ s.size ∧ (L s).drop m = from_ (en) ((L s).drop k) ∧ Rc w' b s m v ∧ w.grownBy w' (some b) := by
  have c1 := h.c1
  go_enter Tryd.func64, Tryd.ntmps64
  go_wp2
  clear c1
  go_loopw [] (fun wr => ∃ m : Nat, Far (by1 (en)) s k m ∧ Rc wr b s m v ∧ w.grownBy wr (some b)) (fun wr => s.size - posOf wr b)
  case atStart => exact ⟨k, .start hk, h, World.grownBy.refl _ _⟩
  case round =>
    clear h
    obtain ⟨m, hf, h, hg⟩ := hrel
    have hm := hf.2.1
    have hkm := hf.1
    have c0 := h.c0; have c1 := h.c1; have f1 := h.f 1
    have hpos := h.pos
    
    by_cases hp : m < s.size
    · have hlt : decide ((m : Int) < s.size) = true := decide_eq_true (by omega)
      cases hsp : (en) s[m] with
      | false =>
        have hf := hf.next hp (by1_at _ s m hp false hsp)
        have H := Lib.hid h; have HF := Lib.hid hf; have HS := Lib.hid hsp; have HP := Lib.hid hpos; have HG := Lib.hid hg; clear h hf hsp hpos hg
        go_wp2
        go_quiet (exact quietB (endsName_any s[m] _) HS.out)
        go_wp2
        go_roundw
        case rel => exact ⟨m + 1, HF.out, H.out.set1 (m + 1), (HG.out.trans (g_dN _ _ _)).trans (g_set _ _ _ _)⟩
        case measure =>
          rw [show posOf ((wr.drewN nq).setCell ⟨b, 1, none⟩ (.int .i64 (m + 1))) b = m + 1 from ((H.out.drew nq).set1 (m + 1)).pos, HP.out]
          omega
      | true =>
        have hd := hf.done (.inl (by1_at _ s m hp true hsp))
        have H := Lib.hid h; have HD := Lib.hid hd; have HS := Lib.hid hsp; have HG := Lib.hid hg; clear h hf hsp hpos hg hd
        go_wp2
        go_quiet (exact quietB (endsName_any s[m] _) HS.out)
        go_wp2
        go_quiet (fail)
        go_wp2
        go_ret
        exact ⟨ret_str HD.out.1, m, hm, HD.out.2, H.out, (HG.out.trans (g_dN _ _ _)).trans (g_dN _ _ _)⟩
    · have hlt : decide ((m : Int) < s.size) = false := decide_eq_false (by omega)
      have hd := hf.done (.inr hp)
      have H := Lib.hid h; have HD := Lib.hid hd; have HG := Lib.hid hg; clear h hf hpos hg hd
      go_wp2
      go_quiet (fail)
      go_wp2
      go_quiet (fail)
      go_wp2
      go_ret
      exact ⟨ret_str HD.out.1, m, hm, HD.out.2, H.out, (HG.out.trans (g_dN _ _ _)).trans (g_dN _ _ _)⟩

set_option maxHeartbeats 1000000 in
theorem upTo_ea (b k : Nat) (s : ByteArray) (v : Value) (w : World) (h : Rc w b s k v) (hk : k ≤ s.size) (hs : s.size ≤ 140737488355328) :
    Calls Tryd.prog 64 #[rp b, .func (.func 105) #[] #[]] w fun e w' => e = .returned (.string (B (upTo (ea) ((L s).drop k)))) ∧ ∃ m, m ≤ s.size ∧ (L s).drop m = from_ (ea) ((L s).drop k) ∧ Rc w' b s m v ∧ w.grownBy w' (some b) := by
  have c1 := h.c1
  go_enter Tryd.func64, Tryd.ntmps64
  go_wp2
  clear c1
  go_loopw [] (fun wr => ∃ m : Nat, Far (by1 (ea)) s k m ∧ Rc wr b s m v ∧ w.grownBy wr (some b)) (fun wr => s.size - posOf wr b)
  case atStart => exact ⟨k, .start hk, h, World.grownBy.refl _ _⟩
  case round =>
    clear h
    obtain ⟨m, hf, h, hg⟩ := hrel
    have hm := hf.2.1
    have hkm := hf.1
    have c0 := h.c0; have c1 := h.c1; have f1 := h.f 1
    have hpos := h.pos
    
    by_cases hp : m < s.size
    · have hlt : decide ((m : Int) < s.size) = true := decide_eq_true (by omega)
      cases hsp : (ea) s[m] with
      | false =>
        have hf := hf.next hp (by1_at _ s m hp false hsp)
        have H := Lib.hid h; have HF := Lib.hid hf; have HS := Lib.hid hsp; have HP := Lib.hid hpos; have HG := Lib.hid hg; clear h hf hsp hpos hg
        go_wp2
        go_quiet (exact quietB (endsAttr_any s[m] _) HS.out)
        go_wp2
        go_roundw
        case rel => exact ⟨m + 1, HF.out, H.out.set1 (m + 1), (HG.out.trans (g_dN _ _ _)).trans (g_set _ _ _ _)⟩
        case measure =>
          rw [show posOf ((wr.drewN nq).setCell ⟨b, 1, none⟩ (.int .i64 (m + 1))) b = m + 1 from ((H.out.drew nq).set1 (m + 1)).pos, HP.out]
          omega
      | true =>
        have hd := hf.done (.inl (by1_at _ s m hp true hsp))
        have H := Lib.hid h; have HD := Lib.hid hd; have HS := Lib.hid hsp; have HG := Lib.hid hg; clear h hf hsp hpos hg hd
        go_wp2
        go_quiet (exact quietB (endsAttr_any s[m] _) HS.out)
        go_wp2
        go_quiet (fail)
        go_wp2
        go_ret
        exact ⟨ret_str HD.out.1, m, hm, HD.out.2, H.out, (HG.out.trans (g_dN _ _ _)).trans (g_dN _ _ _)⟩
    · have hlt : decide ((m : Int) < s.size) = false := decide_eq_false (by omega)
      have hd := hf.done (.inr hp)
      have H := Lib.hid h; have HD := Lib.hid hd; have HG := Lib.hid hg; clear h hf hpos hg hd
      go_wp2
      go_quiet (fail)
      go_wp2
      go_quiet (fail)
      go_wp2
      go_ret
      exact ⟨ret_str HD.out.1, m, hm, HD.out.2, H.out, (HG.out.trans (g_dN _ _ _)).trans (g_dN _ _ _)⟩

set_option maxHeartbeats 1000000 in
theorem upTo_ev (b k : Nat) (s : ByteArray) (v : Value) (w : World) (h : Rc w b s k v) (hk : k ≤ s.size) (hs : s.size ≤ 140737488355328) :
    Calls Tryd.prog 64 #[rp b, .func (.func 97) #[] #[]] w fun e w' => e = .returned (.string (B (upTo (ev) ((L s).drop k)))) ∧ ∃ m, m ≤ s.size ∧ (L s).drop m = from_ (ev) ((L s).drop k) ∧ Rc w' b s m v ∧ w.grownBy w' (some b) := by
  have c1 := h.c1
  go_enter Tryd.func64, Tryd.ntmps64
  go_wp2
  clear c1
  go_loopw [] (fun wr => ∃ m : Nat, Far (by1 (ev)) s k m ∧ Rc wr b s m v ∧ w.grownBy wr (some b)) (fun wr => s.size - posOf wr b)
  case atStart => exact ⟨k, .start hk, h, World.grownBy.refl _ _⟩
  case round =>
    clear h
    obtain ⟨m, hf, h, hg⟩ := hrel
    have hm := hf.2.1
    have hkm := hf.1
    have c0 := h.c0; have c1 := h.c1; have f1 := h.f 1
    have hpos := h.pos
    
    by_cases hp : m < s.size
    · have hlt : decide ((m : Int) < s.size) = true := decide_eq_true (by omega)
      cases hsp : (ev) s[m] with
      | false =>
        have hf := hf.next hp (by1_at _ s m hp false hsp)
        have H := Lib.hid h; have HF := Lib.hid hf; have HS := Lib.hid hsp; have HP := Lib.hid hpos; have HG := Lib.hid hg; clear h hf hsp hpos hg
        go_wp2
        go_quiet (exact quietB (endsValue_any s[m] _) HS.out)
        go_wp2
        go_roundw
        case rel => exact ⟨m + 1, HF.out, H.out.set1 (m + 1), (HG.out.trans (g_dN _ _ _)).trans (g_set _ _ _ _)⟩
        case measure =>
          rw [show posOf ((wr.drewN nq).setCell ⟨b, 1, none⟩ (.int .i64 (m + 1))) b = m + 1 from ((H.out.drew nq).set1 (m + 1)).pos, HP.out]
          omega
      | true =>
        have hd := hf.done (.inl (by1_at _ s m hp true hsp))
        have H := Lib.hid h; have HD := Lib.hid hd; have HS := Lib.hid hsp; have HG := Lib.hid hg; clear h hf hsp hpos hg hd
        go_wp2
        go_quiet (exact quietB (endsValue_any s[m] _) HS.out)
        go_wp2
        go_quiet (fail)
        go_wp2
        go_ret
        exact ⟨ret_str HD.out.1, m, hm, HD.out.2, H.out, (HG.out.trans (g_dN _ _ _)).trans (g_dN _ _ _)⟩
    · have hlt : decide ((m : Int) < s.size) = false := decide_eq_false (by omega)
      have hd := hf.done (.inr hp)
      have H := Lib.hid h; have HD := Lib.hid hd; have HG := Lib.hid hg; clear h hf hpos hg hd
      go_wp2
      go_quiet (fail)
      go_wp2
      go_quiet (fail)
      go_wp2
      go_ret
      exact ⟨ret_str HD.out.1, m, hm, HD.out.2, H.out, (HG.out.trans (g_dN _ _ _)).trans (g_dN _ _ _)⟩

set_option maxHeartbeats 1000000 in
theorem upTo_is (b k : Nat) (s : ByteArray) (v : Value) (w : World) (h : Rc w b s k v) (hk : k ≤ s.size) (hs : s.size ≤ 140737488355328) (q : UInt8) (g : Nat) (hgb : g ≠ b) (hgl : g < w.heap.size) (hq : w.cell? ⟨g, 0, none⟩ = some (.int .u8 q.toNat)) :
    Calls Tryd.prog 64 #[rp b, .func (.func 109) #[] #[.pointer (some ⟨g, 0, none⟩)]] w fun e w' => e = .returned (.string (B (upTo (is q) ((L s).drop k)))) ∧ ∃ m, m ≤ s.size ∧ (L s).drop m = from_ (is q) ((L s).drop k) ∧ Rc w' b s m v ∧ w.grownBy w' (some b) := by
  have c1 := h.c1
  go_enter Tryd.func64, Tryd.ntmps64
  go_wp2
  clear c1
  go_loopw [] (fun wr => ∃ m : Nat, Far (by1 (is q)) s k m ∧ Rc wr b s m v ∧ w.grownBy wr (some b)) (fun wr => s.size - posOf wr b)
  case atStart => exact ⟨k, .start hk, h, World.grownBy.refl _ _⟩
  case round =>
    clear h
    obtain ⟨m, hf, h, hg⟩ := hrel
    have hm := hf.2.1
    have hkm := hf.1
    have c0 := h.c0; have c1 := h.c1; have f1 := h.f 1
    have hpos := h.pos
    have hq : wr.cell? ⟨g, 0, none⟩ = some (.int .u8 q.toNat) := hg.cell hq (by simpa using hgb)
    by_cases hp : m < s.size
    · have hlt : decide ((m : Int) < s.size) = true := decide_eq_true (by omega)
      cases hsp : (is q) s[m] with
      | false =>
        have hf := hf.next hp (by1_at _ s m hp false hsp)
        have H := Lib.hid h; have HF := Lib.hid hf; have HS := Lib.hid hsp; have HP := Lib.hid hpos; have HG := Lib.hid hg; clear h hf hsp hpos hg
        go_wp2
        go_quiet (exact quietB (quote_any s[m] q g _ hq) HS.out)
        go_wp2
        go_roundw
        case rel => exact ⟨m + 1, HF.out, H.out.set1 (m + 1), (HG.out.trans (g_dN _ _ _)).trans (g_set _ _ _ _)⟩
        case measure =>
          rw [show posOf ((wr.drewN nq).setCell ⟨b, 1, none⟩ (.int .i64 (m + 1))) b = m + 1 from ((H.out.drew nq).set1 (m + 1)).pos, HP.out]
          omega
      | true =>
        have hd := hf.done (.inl (by1_at _ s m hp true hsp))
        have H := Lib.hid h; have HD := Lib.hid hd; have HS := Lib.hid hsp; have HG := Lib.hid hg; clear h hf hsp hpos hg hd
        go_wp2
        go_quiet (exact quietB (quote_any s[m] q g _ hq) HS.out)
        go_wp2
        go_quiet (fail)
        go_wp2
        go_ret
        exact ⟨ret_str HD.out.1, m, hm, HD.out.2, H.out, (HG.out.trans (g_dN _ _ _)).trans (g_dN _ _ _)⟩
    · have hlt : decide ((m : Int) < s.size) = false := decide_eq_false (by omega)
      have hd := hf.done (.inr hp)
      have H := Lib.hid h; have HD := Lib.hid hd; have HG := Lib.hid hg; clear h hf hpos hg hd
      go_wp2
      go_quiet (fail)
      go_wp2
      go_quiet (fail)
      go_wp2
      go_ret
      exact ⟨ret_str HD.out.1, m, hm, HD.out.2, H.out, (HG.out.trans (g_dN _ _ _)).trans (g_dN _ _ _)⟩

end Go.Proofs.YtjhhhlomkfnniaaDoor.To

namespace Go.Proofs.YtjhhhlomkfnniaaDoor.To
set_option linter.unusedSimpArgs false
set_option linter.unusedVariables false
open Go.RowKit Ba Fm Fo Tm
open Ro (At acells len_acells below_new)
open Re (Tab)

theorem g_below {w0 w w' : World} {row : Option Nat} (h : w0.grownBy w row) (hb : Below w.heap.size w w') : w0.grownBy w' row :=
  ⟨hb.os.trans h.os, hb.tape.trans h.tape, hb.output.trans h.output, Nat.le_trans h.size hb.size, fun i hi hne => (hb.block i (Nat.lt_of_lt_of_le hi h.size)).trans (h.block i hi hne)⟩
theorem g_alloc (w : World) (o : Obj) (row : Option Nat) : w.grownBy (w.alloc o) row := World.grownBy_alloc w o row
theorem tab_kept {w w' : World} {b : Nat} (h : Tab w) (hg : w.grownBy w' (some b)) (hb : 0 < b) : Tab w' := by
  refine ⟨fun j v hv => ?_, Nat.lt_of_lt_of_le h.2 hg.size⟩
  exact hg.cell (a := ⟨0, 0 + j, none⟩) (h.1 j v hv) (by simp; omega)

theorem pass1 (b k : Nat) (s : ByteArray) (v : Value) (c : UInt8) (n : Int) (q : Bool) (w : World) (h : Rc w b s k v) (hk : k ≤ s.size) (hs : s.size ≤ 140737488355328) (hn : (c.toNat : Int) = n) (hq : hd c ((L s).drop k) = q) :
    Calls Tryd.prog 66 #[rp b, .int .u8 n] w fun e w' => e = .returned (.bool q) ∧ Rc w' b s (k + q.toNat) v ∧ w.grownBy w' (some b) := by
  have := pass_any b k s v c w h hk hs
  rwa [hn, hq] at this
theorem hd_drop {c : UInt8} {s : ByteArray} {k : Nat} (hk : k ≤ s.size) {q : Bool} (h : hd c ((L s).drop k) = q) : k + q.toNat ≤ s.size ∧ (L s).drop (k + q.toNat) = if q = true then ((L s).drop k).drop 1 else (L s).drop k := by
  cases q with
  | false => exact ⟨hk, rfl⟩
  | true =>
    refine ⟨?_, by simp⟩
    by_cases hp : k < s.size
    · show k + 1 ≤ _
      omega
    · rw [drop_nil s k hp] at h
      cases h
theorem hd_head {c : UInt8} {l : List UInt8} : hd c l = true ↔ l.head? = some c := by
  cases l with
  | nil => simp [hd, by1]
  | cons a r => simp [hd, by1, is]
theorem hd_no {c : UInt8} {l : List UInt8} (h : hd c l = false) : ¬ l.head? = some c := fun e => by rw [hd_head.2 e] at h; cases h
theorem from_drop {q : UInt8} {l : List UInt8} : (if hd q (from_ (is q) l) = true then (from_ (is q) l).drop 1 else from_ (is q) l) = (from_ (is q) l).drop 1 := by
  show (if hd q (trail (by1 (is q)) l) = true then (trail (by1 (is q)) l).drop 1 else trail (by1 (is q)) l) = (trail (by1 (is q)) l).drop 1
  rcases trail_cases (by1 (is q)) l with h | h
  · rw [h]; rfl
  · rw [if_pos (show hd q (trail (by1 (is q)) l) = true from h)]

set_option maxHeartbeats 1000000 in
theorem quoted_any (b k : Nat) (s : ByteArray) (v : Value) (q : UInt8) (n : Int) (w : World) (h : Rc w b s k v) (hk : k ≤ s.size) (hs : s.size ≤ 140737488351232) (hn : (q.toNat : Int) = n) :
    Calls Tryd.prog 108 #[rp b, .int .u8 n] w fun e w' => e = .returned (.string (B (quo q ((L s).drop k)).1)) ∧ ∃ m, m ≤ s.size ∧ (L s).drop m = (quo q ((L s).drop k)).2 ∧ Rc w' b s m v ∧ w.grownBy w' (some b) := by
  have hmf : ∀ (fn : Fn) (first cap : Array Value) (w : World), (Instr.makeFunc fn first cap).run Tryd.prog w = .ok (.func fn first cap) w := fun _ _ _ _ => rfl
  subst hn
  obtain ⟨w1, hw1⟩ : ∃ w1, w.alloc (.cells #[.int .u8 q.toNat] 5) = w1 := ⟨_, rfl⟩
  have h1 : Rc w1 b s k v := hw1 ▸ h.below (below_new w _)
  have hg1 : w.grownBy w1 (some b) := hw1 ▸ g_alloc w _ _
  have hc1 : w1.cell? ⟨w.heap.size, 0, none⟩ = some (.int .u8 q.toNat) := by
    rw [← hw1, World.cell?_alloc_at _ _ _ _ rfl]; rfl
  have hz1 : w.heap.size < w1.heap.size := by rw [← hw1]; simp
  have hne : w.heap.size ≠ b := by have := h.lt; omega
  have HW := Lib.hid hw1; clear hw1
  go_enter Tryd.func108, Tryd.ntmps108
  go_wp2_with fail
  clear hmf
  rw [HW.out]
  refine (upTo_is b k s v w1 h1 hk (by omega) q _ hne hz1 hc1).mono ?_
  rintro e w2 ⟨rfl, m, hm, hd2, h2, hg2⟩
  have hc2 : w2.cell? ⟨w.heap.size, 0, none⟩ = some (.int .u8 q.toNat) := hg2.cell hc1 (by simpa using hne)
  obtain ⟨u, hu⟩ : ∃ u, hd q ((L s).drop m) = u := ⟨_, rfl⟩
  have hdr := hd_drop hm hu
  have HD := Lib.hid hdr; have H2 := Lib.hid hd2; have HU := Lib.hid hu; clear hdr hd2 hu
  go_wp2_with fail
  refine (pass1 b m s v q _ u w2 h2 hm (by omega) rfl HU.out).mono ?_
  rintro e w3 ⟨rfl, h3, hg3⟩
  go_wp2
  go_ret
  refine ⟨rfl, m + u.toNat, HD.out.1, ?_, h3, (hg1.trans hg2).trans hg3⟩
  rw [HD.out.2, ← HU.out, H2.out]
  exact from_drop

theorem value_34 {l : List UInt8} (h : hd 34 l = true) : value l = quo 34 (l.drop 1) := by unfold value; rw [if_pos (hd_head.1 h)]
theorem value_39 {l : List UInt8} (h : hd 34 l = false) (h' : hd 39 l = true) : value l = quo 39 (l.drop 1) := by unfold value; rw [if_neg (hd_no h), if_pos (hd_head.1 h')]
theorem value_no {l : List UInt8} (h : hd 34 l = false) (h' : hd 39 l = false) : value l = (upTo ev l, from_ ev l) := by unfold value; rw [if_neg (hd_no h), if_neg (hd_no h')]
set_option maxHeartbeats 1000000 in
theorem value_any (b k : Nat) (s : ByteArray) (v : Value) (w : World) (h : Rc w b s k v) (hk : k ≤ s.size) (hs : s.size ≤ 140737488351232) :
    Calls Tryd.prog 107 #[rp b] w fun e w' => e = .returned (.string (B (value ((L s).drop k)).1)) ∧ ∃ m, m ≤ s.size ∧ (L s).drop m = (value ((L s).drop k)).2 ∧ Rc w' b s m v ∧ w.grownBy w' (some b) := by
  have hs' : s.size ≤ 140737488355328 := by omega
  cases h34 : hd 34 ((L s).drop k) with
  | true =>
    have hv := value_34 h34
    have hdr := hd_drop hk h34
    rw [hv]
    rw [if_pos rfl] at hdr
    rw [← hdr.2]
    have HH := Lib.hid h34; have HD := Lib.hid hdr.1; clear h34 hv hdr
    go_enter Tryd.func107, Tryd.ntmps107
    go_wp2_with fail
    refine (pass1 b k s v 34 _ true w h hk hs' rfl HH.out).mono ?_
    rintro e w2 ⟨rfl, h2, hg2⟩
    go_wp2_with fail
    refine (quoted_any b _ s v 34 _ w2 h2 HD.out hs rfl).mono ?_
    rintro e w3 ⟨rfl, m, hm, hd3, h3, hg3⟩
    go_wp2
    go_ret
    exact ⟨rfl, m, hm, hd3, h3, hg2.trans hg3⟩
  | false =>
    cases h39 : hd 39 ((L s).drop k) with
    | true =>
      have hv := value_39 h34 h39
      have hdr := hd_drop hk h39
      rw [hv]
      rw [if_pos rfl] at hdr
      rw [← hdr.2]
      have HH := Lib.hid h34; have HQ := Lib.hid h39; have HD := Lib.hid hdr.1; clear h34 h39 hv hdr
      go_enter Tryd.func107, Tryd.ntmps107
      go_wp2_with fail
      refine (pass1 b k s v 34 _ false w h hk hs' rfl HH.out).mono ?_
      rintro e w2 ⟨rfl, h2, hg2⟩
      go_wp2_with fail
      refine (pass1 b k s v 39 _ true w2 h2 hk hs' rfl HQ.out).mono ?_
      rintro e w4 ⟨rfl, h4, hg4⟩
      go_wp2_with fail
      refine (quoted_any b _ s v 39 _ w4 h4 HD.out hs rfl).mono ?_
      rintro e w3 ⟨rfl, m, hm, hd3, h3, hg3⟩
      go_wp2
      go_ret
      exact ⟨rfl, m, hm, hd3, h3, (hg2.trans hg4).trans hg3⟩
    | false =>
      have hv := value_no h34 h39
      rw [hv]
      have HH := Lib.hid h34; have HQ := Lib.hid h39; clear h34 h39 hv
      go_enter Tryd.func107, Tryd.ntmps107
      go_wp2_with fail
      refine (pass1 b k s v 34 _ false w h hk hs' rfl HH.out).mono ?_
      rintro e w2 ⟨rfl, h2, hg2⟩
      go_wp2_with fail
      refine (pass1 b k s v 39 _ false w2 h2 hk hs' rfl HQ.out).mono ?_
      rintro e w4 ⟨rfl, h4, hg4⟩
      go_wp2_with fail
      refine (upTo_ev b _ s v w4 h4 hk hs').mono ?_
      rintro e w3 ⟨rfl, m, hm, hd3, h3, hg3⟩
      go_wp2
      go_ret
      exact ⟨rfl, m, hm, hd3, h3, (hg2.trans hg4).trans hg3⟩

end Go.Proofs.YtjhhhlomkfnniaaDoor.To

namespace Go.Proofs.YtjhhhlomkfnniaaDoor.To
set_option linter.unusedSimpArgs false
set_option linter.unusedVariables false
open Go.RowKit Ba Fm Fo Tm
open Ro (At acells len_acells below_new)
open Re (Tab)
open Rm (dec)

theorem len_value1 (l : List UInt8) : (value l).1.length ≤ l.length := by
  unfold value quo
  have h1 := len_lead (by1 (is 34)) (l.drop 1)
  have h2 := len_lead (by1 (is 39)) (l.drop 1)
  have h3 := len_lead (by1 ev) l
  rw [List.length_drop] at h1 h2
  split
  · show (lead _ _).length ≤ _
    omega
  · split
    · show (lead _ _).length ≤ _
      omega
    · exact h3
/-- Block g is an attribute in a box. -/
def Bx (w : World) (g : Nat) (x y : ByteArray) : Prop := w.heap[g]? = some (.cells #[.string x, .string y] 37)
theorem Bx.c0 {w : World} {g : Nat} {x y : ByteArray} (h : Bx w g x y) : w.cell? ⟨g, 0, none⟩ = some (.string x) := by rw [cell_of_row w g 0 _ _ _ h]; rfl
theorem Bx.c1 {w : World} {g : Nat} {x y : ByteArray} (h : Bx w g x y) : w.cell? ⟨g, 1, none⟩ = some (.string y) := by rw [cell_of_row w g 1 _ _ _ h]; rfl
theorem Bx.f {w : World} {g : Nat} {x y : ByteArray} (h : Bx w g x y) (j : Nat) : w.frozen? ⟨g, j, none⟩ = false := by
  unfold Bx at h
  simp [World.frozen?, h]
theorem Bx.lt {w : World} {g : Nat} {x y : ByteArray} (h : Bx w g x y) : g < w.heap.size := (Array.getElem?_eq_some_iff.1 h).1
theorem Bx.set0 {w : World} {g : Nat} {x y : ByteArray} (h : Bx w g x y) (u : ByteArray) : Bx (w.setCell ⟨g, 0, none⟩ (.string u)) g u y := by
  unfold Bx at h ⊢
  simp [World.setCell, Array.getElem?_modify, h]
theorem Bx.set1 {w : World} {g : Nat} {x y : ByteArray} (h : Bx w g x y) (u : ByteArray) : Bx (w.setCell ⟨g, 1, none⟩ (.string u)) g x u := by
  unfold Bx at h ⊢
  simp [World.setCell, Array.getElem?_modify, h]
theorem Bx.kept {w w' : World} {g b : Nat} {x y : ByteArray} (h : Bx w g x y) (hg : w.grownBy w' (some b)) (hne : g ≠ b) : Bx w' g x y := (hg.block g h.lt (by simpa using hne)).trans h
theorem Bx.below {w w' : World} {g : Nat} {x y : ByteArray} (h : Bx w g x y) (hb : Below w.heap.size w w') : Bx w' g x y := (hb.block g h.lt).trans h
theorem Bx.new (w : World) (x y : ByteArray) : Bx (w.alloc (.cells #[.string x, .string y] 37)) w.heap.size x y := by
  exact (MapKept.heap_alloc w _).1
theorem Rc.other {w : World} {b k g j : Nat} {s : ByteArray} {v : Value} (h : Rc w b s k v) (hne : g ≠ b) (u : Value) : Rc (w.setCell ⟨g, j, none⟩ u) b s k v := ((g_set w g j u).block b h.lt (by simpa using Ne.symm hne)).trans h

theorem Bx.other {w : World} {g b j : Nat} {x y : ByteArray} (h : Bx w g x y) (hne : g ≠ b) (u : Value) : Bx (w.setCell ⟨b, j, none⟩ u) g x y := h.kept (g_set w b j u) hne
/-- Where a search has come to, and what it passed. -/
theorem span_of {p : List UInt8 → Bool} {s : ByteArray} {k m : Nat} (hk : k ≤ s.size) (hm : m ≤ s.size) (h : (L s).drop m = trail p ((L s).drop k)) : k ≤ m ∧ ((L s).drop k).take (m - k) = lead p ((L s).drop k) := by
  have h1 := congrArg List.length (lead_trail p ((L s).drop k))
  have h2 := congrArg List.length h
  rw [List.length_append, List.length_drop, size_L] at h1
  rw [List.length_drop, size_L] at h2
  refine ⟨by omega, ?_⟩
  have h3 := lead_trail p ((L s).drop k)
  rw [show m - k = (lead p ((L s).drop k)).length from by omega]
  have h4 : (lead p ((L s).drop k) ++ trail p ((L s).drop k)).take (lead p ((L s).drop k)).length = lead p ((L s).drop k) := by simp
  rwa [h3] at h4
theorem span_one {p : List UInt8 → Bool} {s : ByteArray} {k m : Nat} (hk : k < s.size) (hm : m ≤ s.size) (h : (L s).drop m = trail p ((L s).drop (k + 1))) : k + 1 ≤ m ∧ L (s.extract k m) = s[k] :: lead p ((L s).drop (k + 1)) := by
  obtain ⟨h1, h2⟩ := span_of (by omega) hm h
  refine ⟨h1, ?_⟩
  rw [L_extract, drop_cons s k hk, show m - k = (m - (k + 1)) + 1 from by omega, List.take_succ_cons, h2]

theorem attr_eq (c : UInt8) (r : List UInt8) : attr c r = (⟨B (lowL (c :: upTo ea r)), B (valued (trimS (from_ ea r))).1⟩, (valued (trimS (from_ ea r))).2) := rfl
theorem valued_yes {l : List UInt8} (h : hd 61 l = true) : valued l = (dec (value (trimS (l.drop 1))).1, (value (trimS (l.drop 1))).2) := by unfold valued; rw [if_pos (hd_head.1 h)]
theorem valued_no {l : List UInt8} (h : hd 61 l = false) : valued l = ([], l) := by unfold valued; rw [if_neg (hd_no h)]

theorem box_first (w3 w4 : World) (hb : Below (w3.alloc (.cells #[.string ⟨#[]⟩, .string ⟨#[]⟩] 37)).drew.heap.size (w3.alloc (.cells #[.string ⟨#[]⟩, .string ⟨#[]⟩] 37)).drew w4) :
    Bx w4 w3.heap.size ⟨#[]⟩ ⟨#[]⟩ ∧ Below w3.heap.size w3 w4 := by
  refine ⟨(show Bx (w3.alloc (.cells #[.string ⟨#[]⟩, .string ⟨#[]⟩] 37)).drew w3.heap.size _ _ from Bx.new w3 _ _).below hb, ?_⟩
  exact bt (below_new w3 _) ⟨hb.os, hb.tape, hb.output, hb.size, hb.block⟩
theorem box_next (w3 w4 : World) (hb : Below w3.drew.heap.size w3.drew w4) : Below w3.heap.size w3 w4 := ⟨hb.os, hb.tape, hb.output, hb.size, hb.block⟩

theorem g_far {w w' : World} {row : Option Nat} (h : w.grownBy w' row) {g : Nat} (hg : w.heap.size ≤ g) (j : Nat) (u : Value) : w.grownBy (w'.setCell ⟨g, j, none⟩ u) row := by
  have hs := g_set w' g j u
  refine ⟨hs.os.trans h.os, hs.tape.trans h.tape, hs.output.trans h.output, Nat.le_trans h.size hs.size, fun i hi hne => ?_⟩
  exact (hs.block i (Nat.lt_of_lt_of_le hi h.size) (by simp; omega)).trans (h.block i hi hne)

/-- What stands behind the region in which an attribute is begun. -/
def Beg (w wx : World) (b m g0 : Nat) (s : ByteArray) (v : Value) (x : ByteArray) (u : Value) : Prop :=
  ∃ g1, u = .pointer (some ⟨g1, 0, none⟩) ∧ w.heap.size ≤ g1 ∧ g1 ≠ b ∧ g1 ≠ g0 ∧ Bx wx g1 x ⟨#[]⟩ ∧ Bx wx g0 ⟨#[]⟩ ⟨#[]⟩ ∧ Rc wx b s m v ∧ w.grownBy wx (some b) ∧ Tab wx
theorem beg_after {w w3 w4 : World} {b m g0 : Nat} {s : ByteArray} {v : Value} (x : ByteArray) (hb : Below w3.heap.size w3 w4) (hx : Bx w3 g0 ⟨#[]⟩ ⟨#[]⟩) (h : Rc w3 b s m v) (hg : w.grownBy w3 (some b)) (hT : Tab w3) :
    Beg w (w4.alloc (.cells #[.string x, .string ⟨#[]⟩] 37)) b m g0 s v x (.pointer (some ⟨w4.heap.size, 0, none⟩)) := by
  have hz := hb.size
  have hz2 := hg.size
  have h1 := h.lt
  have h2 := hx.lt
  have hb2 : Below w3.heap.size w3 (w4.alloc (.cells #[.string x, .string ⟨#[]⟩] 37)) := bt hb (below_new w4 _)
  exact ⟨_, rfl, by omega, by omega, by omega, Bx.new w4 _ _, hx.below hb2, h.below hb2, g_below hg hb2, hT.below hb2⟩
theorem beg_first {w w3 w4 : World} {b m g0 : Nat} {s : ByteArray} {v : Value} (x : ByteArray) (hb : Below w3.heap.size w3 w4) (hx : Bx w3 g0 ⟨#[]⟩ ⟨#[]⟩) (h : Rc w3 b s m v) (hg : w.grownBy w3 (some b)) (hT : Tab w3) (hy : Bx w4 w3.heap.size ⟨#[]⟩ ⟨#[]⟩) :
    Beg w ((w4.setCell ⟨w3.heap.size, 0, none⟩ (.string x)).setCell ⟨w3.heap.size, 1, none⟩ (.string ⟨#[]⟩)) b m g0 s v x (.pointer (some ⟨w3.heap.size, 0, none⟩)) := by
  have hz := hb.size
  have hz2 := hg.size
  have h1 := h.lt
  have h2 := hx.lt
  have hb2 : Below w3.heap.size w3 ((w4.setCell ⟨w3.heap.size, 0, none⟩ (.string x)).setCell ⟨w3.heap.size, 1, none⟩ (.string ⟨#[]⟩)) := (hb.setCell (Nat.le_refl _) _).setCell (Nat.le_refl _) _
  exact ⟨_, rfl, by omega, by omega, by omega, (hy.set0 x).set1 _, hx.below hb2, h.below hb2, g_below hg hb2, hT.below hb2⟩

set_option maxHeartbeats 4000000 in
theorem attr_any (b k : Nat) (s : ByteArray) (v : Value) (w : World) (h : Rc w b s k v) (hk : k < s.size) (hs : s.size ≤ 140737488351232) (hT : Tab w) (hb0 : 0 < b) :
    Calls Tryd.prog 98 #[rp b] w fun e w' => e = .returned (.agg #[.string (attr s[k] ((L s).drop (k + 1))).1.name, .string (attr s[k] ((L s).drop (k + 1))).1.value]) ∧ ∃ m, m ≤ s.size ∧ (L s).drop m = (attr s[k] ((L s).drop (k + 1))).2 ∧ Rc w' b s m v ∧ w.grownBy w' (some b) := by
  have hs' : s.size ≤ 140737488355328 := by omega
  have hbx : Bx (w.alloc (.cells #[.string ⟨#[]⟩, .string ⟨#[]⟩] 37)) w.heap.size ⟨#[]⟩ ⟨#[]⟩ := Bx.new w _ _
  have h1 : Rc (w.alloc (.cells #[.string ⟨#[]⟩, .string ⟨#[]⟩] 37)) b s k v := h.below (below_new w _)
  have hg1 : w.grownBy (w.alloc (.cells #[.string ⟨#[]⟩, .string ⟨#[]⟩] 37)) (some b) := g_alloc w _ _
  have hne : w.heap.size ≠ b := by have := h.lt; omega
  have c1 := h1.c1; have f1 := h1.f 1
  have HX := Lib.hid hbx; have H1 := Lib.hid h1; have HG1 := Lib.hid hg1; clear hbx h1 hg1
  go_enter Tryd.func98, Tryd.ntmps98
  go_wp2_with fail
  refine (upTo_ea b (k + 1) s v _ (H1.out.set1 (k + 1)) (by omega) hs').mono ?_
  rintro e w3 ⟨rfl, m, hm, hd3, h3, hg3⟩
  have hx3 := (HX.out.other hne (j := 1) _).kept hg3 hne
  have hg3' := HG1.out.trans ((g_set _ b 1 _).trans hg3)
  clear hg3 HX H1 HG1 c1 f1 h
  have hT3 := tab_kept hT hg3' hb0
  obtain ⟨g0, hg0⟩ : ∃ g0, w.heap.size = g0 := ⟨_, rfl⟩
  rw [hg0] at hx3 hne ⊢
  obtain ⟨hkm, hex⟩ := span_one hk hm hd3
  have c0 := h3.c0; have c1 := h3.c1
  have HX := Lib.hid hx3; have H3 := Lib.hid h3; have HG := Lib.hid hg3'; have HD3 := Lib.hid hd3; have HE := Lib.hid hex; have HT3 := Lib.hid hT3; have HG0 := Lib.hid hg0; clear hx3 h3 hg3' hd3 hex hT3 hg0
  have i0 : (0 : Int) ≤ (k : Int) := by omega
  have i1 : (k : Int) ≤ (m : Int) := by omega
  have i2 : (m : Int) ≤ (s.size : Int) := by omega
  have i3 : (0 : Int) ≤ (m : Int) := by omega
  go_upto_region 4 with (fail)
  go_cut [4] from 18 to 29 (fun s4 wx => Beg w wx b m g0 s v (B (lowL (L (s.extract k m)))) s4)
  case first =>
    have hlb := H3.out.lt
    have en0 := World.new_ne w3 _ c0
    have en1 := World.new_ne w3 _ c1
    have hsx : (s.extract k m).size ≤ 140737488355328 := Nat.le_trans (size_extract _ _ _) hs'
    go_region_held3 (fun w' => w'.cell? ⟨b, 0, none⟩ = some (.string s) ∧ w'.cell? ⟨b, 1, none⟩ = some (.int .i64 m)) (first | exact ⟨d0, d1⟩ | exact ⟨c0, c1⟩ | go_keep) (first
      | (go_at_call 82; refine (lower_any _ (w3.alloc (.cells #[.string ⟨#[]⟩, .string ⟨#[]⟩] 37)).drew hsx).mono ?_; rintro e w4 ⟨rfl, hb4⟩; obtain ⟨hx4, hb4'⟩ := box_first w3 w4 hb4; have d0 := (hb4'.cell (p := ⟨b, 0, none⟩) hlb).trans c0; have d1 := (hb4'.cell (p := ⟨b, 1, none⟩) hlb).trans c1; have y0 := hx4.c0; have y1 := hx4.c1; have z0 := hx4.f 0; have z1 := hx4.f 1; have HX4 := Lib.hid hx4; have HB4 := Lib.hid hb4'; clear hx4 hb4' hb4)
      | (go_at_call 82; refine (lower_any _ w3.drew hsx).mono ?_; rintro e w4 ⟨rfl, hb4⟩; have hb4' := box_next w3 w4 hb4; have d0 := (hb4'.cell (p := ⟨b, 0, none⟩) hlb).trans c0; have d1 := (hb4'.cell (p := ⟨b, 1, none⟩) hlb).trans c1; have en2 := World.new_ne w4 _ d0; have en3 := World.new_ne w4 _ d1; have HB4 := Lib.hid hb4'; clear hb4' hb4))
    all_goals go_wp2_with fail
    all_goals go_meet
    · exact beg_after _ HB4.out HX.out H3.out HG.out HT3.out
    · exact beg_first _ HB4.out HX.out H3.out HG.out HT3.out HX4.out
  case rest =>
    obtain ⟨g1, rfl, hn0, hn1, hn2, hx1, hx0, h4, hg4, hT4⟩ := hcut
    clear c0 c1 HX H3 HG HT3
    have he := HE.out
    rw [he] at hx1
    go_wp2_with fail
    refine (skip_any b m s v _ h4 hm hs').mono ?_
    rintro e w5 ⟨rfl, m5, hm5, hd5, h5, hg5⟩
    have hx15 := hx1.kept hg5 hn1; have hx05 := hx0.kept hg5 hne; have hg5' := hg4.trans hg5; have hT5 := tab_kept hT4 hg5 hb0
    clear hx1 hx0 h4 hg4 hT4 hg5
    have hd5' : (L s).drop m5 = trimS (from_ ea ((L s).drop (k + 1))) := by rw [hd5, HD3.out]
    cases h61 : hd 61 ((L s).drop m5) with
    | false =>
      have hv := valued_no h61
      have HV := Lib.hid hv; have H61 := Lib.hid h61; have HD5 := Lib.hid hd5'; clear hv h61 hd5 hd5'
      go_wp2_with fail
      refine (pass1 b m5 s v 61 _ false w5 h5 hm5 hs' rfl H61.out).mono ?_
      rintro e w6 ⟨rfl, h6, hg6⟩
      have hx16 := hx15.kept hg6 hn1; have hx06 := hx05.kept hg6 hne
      have k0 := hx16.c0; have k1 := hx16.c1; have r0 := hx06.c0; have r1 := hx06.c1; have q0 := hx06.f 0; have q1 := hx06.f 1
      have HX0 := Lib.hid hx06; have H6 := Lib.hid h6; have HG6 := Lib.hid (hg5'.trans hg6)
      clear hx15 hx05 hx16 hx06 hg5' hg6 h5 h6 hT5
      go_wp2
      refine bodyPost_ret (v := .agg #[.string (B (lowL (s[k] :: upTo ea ((L s).drop (k + 1))))), .string ⟨#[]⟩]) ?_ rfl ⟨?_, m5, hm5, ?_, (H6.out.other hne _).other hne _, ?_⟩
      · have hf := (HX0.out.set0 (B (lowL (s[k] :: upTo ea ((L s).drop (k + 1)))))).set1 ⟨#[]⟩
        have z0 := hf.c0; have z1 := hf.c1
        simp [results, Tryd.results98, go_sem, z0, z1]
      · rw [attr_eq, ← HD5.out, HV.out]; rfl
      · rw [attr_eq, ← HD5.out, HV.out]
      · exact g_far (g_far HG6.out (by rw [HG0.out]; exact Nat.le_refl _) _ _) (by rw [HG0.out]; exact Nat.le_refl _) _ _
    | true =>
      have hv := valued_yes h61
      have hdr := hd_drop hm5 h61
      rw [if_pos rfl] at hdr
      have HV := Lib.hid hv; have H61 := Lib.hid h61; have HD5 := Lib.hid hd5'; have HDR := Lib.hid hdr; clear hv h61 hd5 hd5' hdr
      go_wp2_with fail
      refine (pass1 b m5 s v 61 _ true w5 h5 hm5 hs' rfl H61.out).mono ?_
      rintro e w6 ⟨rfl, h6, hg6⟩
      have hx16 := hx15.kept hg6 hn1; have hx06 := hx05.kept hg6 hne; have hg6' := hg5'.trans hg6; have hT6 := tab_kept hT5 hg6 hb0
      clear hx15 hx05 hg5' hg6 h5 hT5
      go_wp2_with fail
      refine (skip_any b _ s v w6 h6 HDR.out.1 hs').mono ?_
      rintro e w7 ⟨rfl, m7, hm7, hd7, h7, hg7⟩
      have hx17 := hx16.kept hg7 hn1; have hx07 := hx06.kept hg7 hne; have hg7' := hg6'.trans hg7; have hT7 := tab_kept hT6 hg7 hb0
      have HD7 := Lib.hid hd7
      clear hx16 hx06 hg6' hg7 h6 hT6 hd7
      go_wp2_with fail
      refine (value_any b _ s v w7 h7 hm7 hs).mono ?_
      rintro e w8 ⟨rfl, m8, hm8, hd8, h8, hg8⟩
      have hx18 := hx17.kept hg8 hn1; have hx08 := hx07.kept hg8 hne; have hg8' := hg7'.trans hg8; have hT8 := tab_kept hT7 hg8 hb0
      have HD8 := Lib.hid hd8
      clear hx17 hx07 hg7' hg8 h7 hT7 hd8
      go_wp2_with fail
      have hvs : (B (value ((L s).drop m7)).1).size ≤ 140737488351232 := by
        rw [size_B]
        have := len_value1 ((L s).drop m7)
        rw [List.length_drop, size_L] at this
        omega
      refine (Re.decode_any _ w8 hT8 hvs).mono ?_
      rintro e w9 ⟨rfl, hb9⟩
      have hx19 := hx18.below hb9; have hx09 := hx08.below hb9
      have k0 := hx19.c0; have k1 := hx19.c1; have r0 := hx09.c0; have r1 := hx09.c1; have q0 := hx09.f 0; have q1 := hx09.f 1; have p1 := hx19.f 1
      have hn2' : g0 ≠ g1 := fun e => hn2 e.symm
      have HX1 := Lib.hid hx19; have HX0 := Lib.hid hx09; have H9 := Lib.hid (h8.below hb9); have HG9 := Lib.hid (g_below hg8' hb9)
      clear hx18 hx08 hx19 hx09 hg8' hb9 h8 hT8
      go_wp2
      refine bodyPost_ret (v := .agg #[.string (B (lowL (s[k] :: upTo ea ((L s).drop (k + 1))))), .string (B (dec (L (B (value ((L s).drop m7)).1))))]) ?_ rfl ⟨?_, m8, hm8, ?_, ((H9.out.other hn1 _).other hne _).other hne _, ?_⟩
      · have hf := ((HX0.out.other hn2' (b := g1) (j := 1) (.string (B (dec (L (B (value ((L s).drop m7)).1)))))).set0 (B (lowL (s[k] :: upTo ea ((L s).drop (k + 1)))))).set1 (B (dec (L (B (value ((L s).drop m7)).1))))
        have z0 := hf.c0; have z1 := hf.c1
        simp [results, Tryd.results98, go_sem, z0, z1]
      · rw [attr_eq, ← HD5.out, HV.out, ← HDR.out.2, ← HD7.out, L_B]
      · rw [attr_eq, ← HD5.out, HV.out, ← HDR.out.2, ← HD7.out]; exact HD8.out
      · exact g_far (g_far (g_far HG9.out hn0 _ _) (by rw [HG0.out]; exact Nat.le_refl _) _ _) (by rw [HG0.out]; exact Nat.le_refl _) _ _

end Go.Proofs.YtjhhhlomkfnniaaDoor.To
