/-
  Walks of stage 6: attrs of the reader: a tag's attributes, in a loop with a label, the names seen kept in a map. Walks of stage 6: attrs of the reader: the loop.
-/
import Derived.Test.YtjhhhlomkfnniaaDoorTokRead
import Derived.Maps.OwnSet
import Derived.StringKeys
import Derived.WalkMore
namespace Go.Proofs.YtjhhhlomkfnniaaDoor.To
set_option linter.unusedSimpArgs false
set_option linter.unusedVariables false
open Go.RowKit Ba Fm Fo Tm
open Ro (At acells len_acells below_new Sh Ra acells_one info_attr)
open Re (Tab)
open Rm (dec)

/-- Attributes of the call's own. -/
def Aw (N : Nat) (w : World) (v : Value) (l : List At) : Prop := w.ownsRow N 37 2 v l.length (l.flatMap acells) ∧ Sh l
theorem Aw.nil (N : Nat) (w : World) : Aw N w (.slice none 0 0) [] := ⟨World.ownsRow_nil w N _ 2, fun _ h => by simp at h⟩
/-- A block that is none of attributes is not theirs. -/
theorem Aw.ne {N b : Nat} {w : World} {v : Value} {l : List At} (h : Aw N w v l) {cs : Array Value} {t : TypeId} {fr : Nat × Nat} (hb : w.heap[b]? = some (.cells cs t fr)) (ht : t ≠ 37) : v.ownBlock ≠ some b := by
  rcases h.1.2 with ⟨rfl, _⟩ | ⟨g, cap, cur, rfl, _, hh, _⟩
  · simp [Value.ownBlock]
  · intro e
    have e : g = b := by simpa [Value.ownBlock] using e
    subst e
    rw [hb] at hh
    injection hh with hh
    injection hh with _ h2
    exact ht h2
theorem Aw.low {N b : Nat} {w : World} {v : Value} {l : List At} (h : Aw N w v l) (hb : b < N) : v.ownBlock ≠ some b := fun e => by
  have := (World.ownsRow.lt h.1 b e).1
  omega
theorem Aw.kept {N : Nat} {w w' : World} {v : Value} {l : List At} {row : Option Nat} (h : Aw N w v l) (hg : w.grownBy w' row) (hne : v.ownBlock = none ∨ v.ownBlock ≠ row) : Aw N w' v l := ⟨World.ownsRow.kept h.1 hg hne, h.2⟩
theorem Aw.alloc {N : Nat} {w : World} {v : Value} {l : List At} (h : Aw N w v l) (o : Obj) : Aw N (w.alloc o) v l := ⟨World.ownsRow.alloc h.1 o, h.2⟩
theorem Aw.form {N : Nat} {w : World} {v : Value} {l : List At} (h : Aw N w v l) : ∃ A c, v = .slice A l.length c := by
  rcases h.1.2 with ⟨hv, hl⟩ | ⟨g, cap, cur, hv, _⟩
  · exact ⟨none, 0, by rw [hl]; exact hv⟩
  · exact ⟨_, _, hv⟩

theorem attr_cells_new (w : World) (x : At) : ∀ j u, (acells x)[j]? = some u → (w.alloc (.cells #[.string x.name, .string x.value] 37)).cell? ((⟨w.heap.size, 0, none⟩ : Addr).add j) = some u := fun j u hu => by
  rw [WideShapes.add_plain, Nat.zero_add]
  have h := Bx.new w x.name x.value
  match j with
  | 0 => exact h.c0.trans hu
  | 1 => exact h.c1.trans hu
  | j + 2 => simp [acells] at hu
/-- append of one attribute, in a block of its own, onto attributes of the call's own. -/
theorem app_attr {ops : Array Oper} {rest : List Oper} {o : Oper} {a : Act} {Q : Exit → Act → World → Prop} (w : World) (hgd : o.guard = none) (s x : Operand)
    (ho : o.op = .call { callee := .builtin .append, args := #[s, x], argTypes := #[33, 33] })
    (N : Nat) (v : Value) (l : List At) (y : At) (hs : a.eval s = v) (hown : Aw N w v l) (hy : y.name.size ≤ maxLen) (g : Nat) (hgz : g = w.heap.size) (hx : a.eval x = .slice (some ⟨g, 0, none⟩) 1 1)
    (hl : l.length ≤ 4000000000) (hN : N ≤ w.heap.size)
    (h : ∀ v' w', Aw N w' v' (l ++ [y]) → w.grownBy w' v.ownBlock → wpList Tryd.prog ops Q rest (a.put o.dst v') w') :
    wpList Tryd.prog ops Q (o :: rest) a (w.alloc (.cells #[.string y.name, .string y.value] 37)) := by
  subst hgz
  obtain ⟨i0, hi, hz0, hz1, hz2⟩ := info_parts info_attr
  have hown' : Aw N (w.alloc (.cells #[.string y.name, .string y.value] 37)) v l := hown.alloc _
  have hsz : (w.alloc (.cells #[.string y.name, .string y.value] 37)).heap.size = w.heap.size + 1 := by simp
  refine wpList_append_own _ hgd s x 33 ho N 37 i0 _ 2 32 Tryd.underlying33 hi hz0 hz1 hz2 rfl (by decide) v l.length (l.flatMap acells) hs hown'.1 ⟨w.heap.size, 0, none⟩ 1 1 (acells y) hx rfl (attr_cells_new w y) (by have := acells_one [y]; simpa using this) (by unfold maxLen; omega) (by omega) (by omega) ?_
  intro v' w' ho2 hg2 _
  refine h v' w' ⟨?_, fun z hz => ?_⟩ ((World.grownBy_alloc w _ _).trans hg2)
  · rw [List.length_append, List.flatMap_append]
    simpa using ho2
  · rcases List.mem_append.1 hz with hz | hz
    · exact hown.2 z hz
    · rw [List.mem_singleton.1 hz]; exact hy

/-- The names that were seen, as a set. -/
def keys (l : List At) : List Lit := l.map fun a => .string (L a.name)
def Sn (l : List At) : DataW Unit := Maps.setOf (.agg []) (keys l)
theorem has_Sn (l : List At) (n : ByteArray) : Maps.has (Sn l) (.string (L n)) = known l n := by
  unfold Sn
  rw [Maps.has_setOf _ _ _ (fun x hx => by
    unfold keys at hx
    obtain ⟨a, _, rfl⟩ := List.mem_map.1 hx
    simp [WideAt.IsKeyLit])]
  unfold keys known
  rw [List.any_map]
  congr 1
  funext a
  show (Lit.string (L a.name)).sameKey (.string (L n)) = decide (a.name = n)
  rw [Bool.eq_iff_iff, WideAt.sameKey_iff (by simp [WideAt.IsKeyLit]), decide_eq_true_iff]
  constructor
  · intro e
    injection e with e
    exact L_inj e
  · intro e
    rw [e]
theorem Sn_snoc (l : List At) (a : At) : Sn (l ++ [a]) = (Sn l).put (.string (L a.name)) (.agg []) := by
  unfold Sn keys
  rw [List.map_append]
  exact Maps.setOf_snoc _ _ _
theorem keyed_str : Maps.Keyed Tryd.prog 9 := Maps.string_keyed Tryd.underlying9
theorem zero_unit (w : World) : (zeroValue 89).run Tryd.prog w = .ok (.agg #[]) w := by kernel_rfl
theorem len_put (l : List At) (a : At) : (put l a).length ≤ l.length + 1 := by
  unfold put
  split
  · omega
  · simp

end Go.Proofs.YtjhhhlomkfnniaaDoor.To

namespace Go.Proofs.YtjhhhlomkfnniaaDoor.To
set_option linter.unusedSimpArgs false
set_option linter.unusedVariables false
open Go.RowKit Ba Fm Fo Tm
open Ro (At acells len_acells below_new Sh Ra acells_one info_attr)
open Re (Tab)
open Rm (dec)

/-- What the loop over a tag's attributes has come to. -/
structure Al (w wr : World) (b k g0 : Nat) (s : ByteArray) (V v : Value) (sf : Bool) (m : Nat) (l : List At) : Prop where
  m_le : m ≤ s.size
  k_le : k ≤ m
  rc : Rc wr b s m V
  map : wr.ownsMap Tryd.prog 9 unitElem g0 l.length (Sn l)
  own : Aw (g0 + 1) wr v l
  g : w.grownBy wr (some b)
  eq : attrs false [] ((L s).drop k) = attrs sf l ((L s).drop m)
  few : l.length ≤ m - k
  lo : w.heap.size ≤ g0
  hi : g0 < wr.heap.size

theorem Al.drew {w wr : World} {b k g0 m : Nat} {s : ByteArray} {V v : Value} {sf : Bool} {l : List At} (h : Al w wr b k g0 s V v sf m l) (n : Nat) : Al w (wr.drewN n) b k g0 s V v sf m l :=
  ⟨h.m_le, h.k_le, h.rc, h.map, h.own, h.g.trans (g_dN _ _ _), h.eq, h.few, h.lo, h.hi⟩
theorem Aw.drew {N : Nat} {w : World} {v : Value} {l : List At} (h : Aw N w v l) (n : Nat) : Aw N (w.drewN n) v l := h

theorem le2 {w : World} {g : Nat} {o o' : Obj} (h : g < w.heap.size) : g + 1 ≤ ((w.alloc o).alloc o').heap.size := by simp; omega
theorem g_row {w w' w'' : World} {row row2 : Option Nat} (h : w.grownBy w' row) (hg : w'.grownBy w'' row2) (hr : ∀ j, row2 = some j → w.heap.size ≤ j) : w.grownBy w'' row :=
  ⟨hg.os.trans h.os, hg.tape.trans h.tape, hg.output.trans h.output, Nat.le_trans h.size hg.size, fun i hi hne => (hg.block i (Nat.lt_of_lt_of_le hi h.size) (fun e => by have := hr i e.symm; omega)).trans (h.block i hi hne)⟩
theorem lt_eq {a b c : Nat} (h : a = b) (h2 : b < c) : a < c := h ▸ h2
theorem map_ne {w : World} {b k g n : Nat} {s : ByteArray} {V : Value} {l : DataW Unit} (h : Rc w b s k V) (hm : w.ownsMap Tryd.prog 9 unitElem g n l) : g ≠ b := by
  obtain ⟨es, clock, hb, _⟩ := hm
  intro e
  subst e
  unfold Rc at h
  rw [h] at hb
  cases hb
/-- A place further on. -/
theorem Al.moved {w wr : World} {b k g0 m : Nat} {s : ByteArray} {V v : Value} {sf : Bool} {l : List At} (h : Al w wr b k g0 s V v sf m l) (x u : Nat) :
    Rc ((wr.drewN x).setCell ⟨b, 1, none⟩ (.int .i64 u)) b s u V ∧ w.grownBy ((wr.drewN x).setCell ⟨b, 1, none⟩ (.int .i64 u)) (some b) ∧ Aw (g0 + 1) ((wr.drewN x).setCell ⟨b, 1, none⟩ (.int .i64 u)) v l ∧
      ((wr.drewN x).setCell ⟨b, 1, none⟩ (.int .i64 u)).ownsMap Tryd.prog 9 unitElem g0 l.length (Sn l) ∧ g0 < ((wr.drewN x).setCell ⟨b, 1, none⟩ (.int .i64 u)).heap.size := by
  have hg := g_set (wr.drewN x) b 1 (.int .i64 u)
  have hrc : Rc (wr.drewN x) b s m V := h.rc
  refine ⟨hrc.set1 u, (h.g.trans (g_dN _ _ _)).trans hg, ?_, ?_, Nat.lt_of_lt_of_le h.hi hg.size⟩
  · exact Aw.kept (show Aw (g0 + 1) (wr.drewN x) v l from h.own) hg (.inr (h.own.ne (show wr.heap[b]? = _ from h.rc) (by decide)))
  · exact World.ownsMap.kept (show (wr.drewN x).ownsMap Tryd.prog 9 unitElem g0 l.length (Sn l) from h.map) hg (by have := map_ne h.rc h.map; simpa using this)
/-- Behind an attribute that was read. -/
theorem Al.read {w wr w2 : World} {b k g0 m m2 : Nat} {s : ByteArray} {V v : Value} {sf : Bool} {l : List At} (h : Al w wr b k g0 s V v sf m l) (x : Nat) (hg : (wr.drewN x).grownBy w2 (some b)) (h2 : Rc w2 b s m2 V) :
    w.grownBy w2 (some b) ∧ Aw (g0 + 1) w2 v l ∧ w2.ownsMap Tryd.prog 9 unitElem g0 l.length (Sn l) ∧ g0 < w2.heap.size := by
  refine ⟨(h.g.trans (g_dN _ _ _)).trans hg, ?_, ?_, Nat.lt_of_lt_of_le h.hi hg.size⟩
  · exact Aw.kept (show Aw (g0 + 1) (wr.drewN x) v l from h.own) hg (.inr (h.own.ne (show wr.heap[b]? = _ from h.rc) (by decide)))
  · exact World.ownsMap.kept (show (wr.drewN x).ownsMap Tryd.prog 9 unitElem g0 l.length (Sn l) from h.map) hg (by have := map_ne h.rc h.map; simpa using this)
theorem len_name (c : UInt8) (r : List UInt8) : (attr c r).1.name.size ≤ r.length + 1 := by
  show (B (lowL (c :: upTo ea r))).size ≤ _
  rw [size_B, len_lowL, List.length_cons]
  have := len_lead (by1 ea) r
  show (lead (by1 ea) r).length + 1 ≤ _
  omega
theorem Aw.mono {N N' : Nat} {w : World} {v : Value} {l : List At} (h : Aw N w v l) (hN : N' ≤ N) : Aw N' w v l := ⟨World.ownsRow.mono h.1 hN, h.2⟩

set_option maxRecDepth 100000 in
set_option maxHeartbeats 8000000 in
theorem attrs_any (b k : Nat) (s : ByteArray) (V : Value) (w : World) (h : Rc w b s k V) (hk : k ≤ s.size) (hs : s.size ≤ 1000000000) (hT : Tab w) (hb0 : 0 < b) :
    Calls Tryd.prog 84 #[rp b] w fun e w' => ∃ v sf en m l, e = .returned (.tuple #[v, .bool sf, .bool en]) ∧ Aw w.heap.size w' v l ∧ m ≤ s.size ∧ l.length ≤ s.size ∧ Rc w' b s m V ∧ w.grownBy w' (some b) ∧
      attrs false [] ((L s).drop k) = (if en = true then some (l, sf, (L s).drop m) else none) ∧ (en = false → m = s.size) := by
  have hmm := @run_makeMap Tryd.prog
  have hs' : s.size ≤ 140737488355328 := by omega
  have h0 : Al w (w.alloc (.map #[] 0)) b k w.heap.size s V (.slice none 0 0) false k [] :=
    ⟨hk, Nat.le_refl _, h.below (below_new w _), by exact World.ownsMap_made _ _ _ _, Aw.nil _ _, g_alloc w _ _, rfl, by simp, Nat.le_refl _, by simp⟩
  have HT := Lib.hid hT
  clear h hT
  go_enter Tryd.func84, Tryd.ntmps84
  go_wp2
  go_step3
  go_wp2
  go_step3
  go_wp2
  clear hmm
  generalize hg0 : w.heap.size = g0 at *
  go_loopw [2, 3, 4] (fun v2 v3 v4 wr => ∃ sf m l, v3 = .bool sf ∧ v4 = .bool false ∧ Al w wr b k g0 s V v2 sf m l) (fun _ _ _ wr => s.size - posOf wr b)
  case atStart => exact ⟨false, k, [], rfl, rfl, h0⟩
  case round =>
    clear h0
    obtain ⟨sf, m, l, rfl, rfl, hal⟩ := hrel
    have hm := hal.m_le
    have c0 := hal.rc.c0; have c1 := hal.rc.c1; have f1 := hal.rc.f 1
    have hpos := hal.rc.pos
    by_cases hp : m < s.size
    · have hlt : decide ((m : Int) < s.size) = true := decide_eq_true (by omega)
      have hcon := drop_cons s m hp
      have e62 : ((s[m].toNat : Int) == 62) = (s[m] == 62) := u8_eq (b := 62)
      have e47 : ((s[m].toNat : Int) == 47) = (s[m] == 47) := u8_eq (b := 47)
      by_cases h62 : s[m] = 62
      · have hb : (s[m] == 62) = true := by rw [h62]; rfl
        rw [hb] at e62
        have heq := hal.eq
        rw [hcon, h62, attrs_end] at heq
        have HA := Lib.hid hal; have HE := Lib.hid heq; clear hal hpos heq hcon h62 hb e47
        go_wp2
        go_quiet (fail)
        go_wp2
        go_quiet (fail)
        go_wp2
        rw [Exit.noGoto_ret]
        go_ret3
        obtain ⟨r1, r2, r3, _⟩ := HA.out.moved _ (m + 1)
        exact ⟨_, _, _, m + 1, l, rfl, r3.mono (by omega), by omega, by have := HA.out.few; omega, r1, r2, by rw [if_pos rfl]; exact HE.out, fun h => by cases h⟩
      by_cases h47 : s[m] = 47
      · have hb : (s[m] == 62) = false := by rw [h47]; rfl
        have hb2 : (s[m] == 47) = true := by rw [h47]; rfl
        rw [hb] at e62
        rw [hb2] at e47
        have heq := hal.eq
        rw [hcon, attrs_skip _ _ _ h62 (.inl h47), hb2] at heq
        have HA := Lib.hid hal; have HE := Lib.hid heq; have HP := Lib.hid hpos; clear hal hpos heq hcon h62 h47 hb hb2
        go_wp2
        go_quiet (fail)
        go_wp2
        go_quiet (fail)
        go_wp2
        go_roundw
        case rel =>
          obtain ⟨r1, r2, r3, r4, r5⟩ := HA.out.moved _ (m + 1)
          have hf := HA.out.few
          have hk2 := HA.out.k_le
          exact ⟨true, m + 1, l, rfl, rfl, by omega, by omega, r1, r4, r3, r2, HE.out, by omega, HA.out.lo, r5⟩
        case measure =>
          obtain ⟨r1, _⟩ := HA.out.moved _ (m + 1)
          rw [HP.out]
          exact lt_eq (congrArg (fun z => s.size - z) r1.pos) (by omega)
      have hb : (s[m] == 62) = false := by simpa using h62
      have hb2 : (s[m] == 47) = false := by simpa using h47
      rw [hb] at e62
      rw [hb2] at e47
      cases hsp : sp s[m] with
      | true =>
        have heq := hal.eq
        rw [hcon, attrs_skip _ _ _ h62 (.inr hsp), hb2] at heq
        have HA := Lib.hid hal; have HE := Lib.hid heq; have HP := Lib.hid hpos; have HS := Lib.hid hsp; clear hal hpos heq hcon h62 h47 hb hb2 hsp
        go_wp2
        go_quiet (fail)
        go_wp2
        go_quiet (fail)
        go_wp2_with (go_at_call 71; refine (space_any s[m] _).mono ?_; rw [HS.out]; rintro e w' ⟨rfl, rfl⟩)
        go_roundw
        case rel =>
          obtain ⟨r1, r2, r3, r4, r5⟩ := HA.out.moved _ (m + 1)
          have hf := HA.out.few
          have hk2 := HA.out.k_le
          exact ⟨false, m + 1, l, rfl, rfl, by omega, by omega, r1, r4, r3, r2, HE.out, by omega, HA.out.lo, r5⟩
        case measure =>
          obtain ⟨r1, _⟩ := HA.out.moved _ (m + 1)
          rw [HP.out]
          exact lt_eq (congrArg (fun z => s.size - z) r1.pos) (by omega)
      | false =>
        have heq := hal.eq
        rw [hcon, attrs_attr _ _ _ h62 (by rw [hsp]; simpa using h47)] at heq
        have hpl := len_attr s[m] ((L s).drop (m + 1))
        have HA := Lib.hid hal; have HE := Lib.hid heq; have HP := Lib.hid hpos; have HS := Lib.hid hsp; have HL := Lib.hid hpl; clear hal hpos heq hcon h62 h47 hb hb2 hsp hpl
        go_wp2
        go_quiet (fail)
        go_wp2
        go_quiet (fail)
        go_wp2_with (go_at_call 71; refine (space_any s[m] _).mono ?_; rw [HS.out]; rintro e w' ⟨rfl, rfl⟩)
        refine (attr_any b m s V _ (HA.out.rc.drew _) hp (by omega) (tab_kept HT.out (HA.out.g.trans (g_dN _ _ _)) hb0) hb0).mono ?_
        rintro e w2 ⟨rfl, m2, hm2, hd2, h2, hg2⟩
        obtain ⟨r1, r2, r3, r4⟩ := HA.out.read _ hg2 h2
        have hns := len_name s[m] ((L s).drop (m + 1))
        have heq := HE.out
        have hln := HL.out
        rw [← hd2] at heq hln
        obtain ⟨a, ha⟩ : ∃ a, (attr s[m] ((L s).drop (m + 1))).1 = a := ⟨_, rfl⟩
        rw [ha] at heq hns ⊢
        rw [List.length_drop, size_L] at hns
        rw [List.length_drop, List.length_drop, size_L] at hln
        have hmm2 : m + 1 ≤ m2 := by omega
        have hnm : a.name.size ≤ maxLen := by unfold maxLen; omega
        have hkey : keyOf Tryd.prog 9 (.string a.name) = some (.string (L a.name)) := WideMaps.keyOf_string_mk Tryd.underlying9 hnm
        have hbx := Bx.new w2 a.name a.value
        have HB := Lib.hid hbx; have HG2 := Lib.hid r1; have HW := Lib.hid r2; have HM := Lib.hid r3; have H2 := Lib.hid h2; have HI := Lib.hid r4; have HLN := Lib.hid hln; have HNM := Lib.hid hnm
        clear hbx r1 r2 r3 r4 h2 hg2 hd2 ha hns hln hnm HL HE
        cases hq : known l a.name with
        | true =>
          have hp2 : put l a = l := by unfold put; rw [if_pos hq]
          rw [hp2] at heq
          have hhas := has_Sn l a.name
          rw [hq] at hhas
          have HE := Lib.hid heq; have HH := Lib.hid hhas; clear heq hhas hp2 hq
          go_wp2_with (at_lookup; refine wpList_lookup_own_unit _ rfl _ _ 87 rfl 9 89 keyed_str Tryd.underlying87 (zero_unit _) g0 l.length (Sn l) rfl (HM.out.alloc _) _ _ rfl hkey ?_; rw [HH.out])
          go_roundw
          case rel =>
            have h3 := (((H2.out.below (below_new w2 (.cells #[.string a.name, .string a.value] 37)))).below (below_new _ (.cells #[] 89)))
            have hf := HA.out.few
            have hk2 := HA.out.k_le
            exact ⟨false, m2, l, rfl, rfl, hm2, by omega, h3, (HM.out.alloc _).alloc _, (HW.out.alloc _).alloc _, (HG2.out.trans (g_alloc _ _ _)).trans (g_alloc _ _ _), HE.out, by omega, HA.out.lo, by have := HI.out; simp; omega⟩
          case measure =>
            have h3 := (((H2.out.below (below_new w2 (.cells #[.string a.name, .string a.value] 37)))).below (below_new _ (.cells #[] 89)))
            rw [HP.out]
            exact lt_eq (congrArg (fun z => s.size - z) h3.pos) (by omega)
        | false =>
          have hp2 : put l a = l ++ [a] := by unfold put; rw [if_neg (by rw [hq]; simp)]
          rw [hp2] at heq
          have hhas := has_Sn l a.name
          rw [hq] at hhas
          have hlen : l.length < maxLen := by have := HA.out.few; unfold maxLen; omega
          have hl4 : l.length ≤ 4000000000 := by have := HA.out.few; omega
          have HE := Lib.hid heq; have HH := Lib.hid hhas; clear heq hhas hp2 hq
          have hne1 : g0 ≠ w2.heap.size := by have := HI.out; omega
          have hbb := H2.out.lt
          go_wp2_with (first
            | (at_lookup; refine wpList_lookup_own_unit _ rfl _ _ 87 rfl 9 89 keyed_str Tryd.underlying87 (zero_unit _) g0 l.length (Sn l) rfl (HM.out.alloc _) _ _ rfl hkey ?_; rw [HH.out])
            | (at_mapUpdate; refine wpList_mapUpdate_own _ rfl _ _ _ 87 rfl 9 89 keyed_str Tryd.underlying87 (unitElem (H := Unit)) g0 l.length (Sn l) rfl ((HM.out.alloc _).alloc _) hlen _ _ _ rfl rfl hkey _ [] unitElem_mk ?_; intro w5 hown5 hgrow5; have hx5 := ((HB.out).below (below_new _ (.cells #[] 89))).kept hgrow5 hne1.symm; have y0 := hx5.c0; have y1 := hx5.c1; have hw5 := (((HW.out.alloc (.cells #[.string a.name, .string a.value] 37)).alloc (.cells #[] 89)).kept hgrow5 (.inr (HW.out.low (Nat.lt_succ_self _)))); have hz5 : g0 + 1 ≤ w5.heap.size := Nat.le_trans (le2 HI.out) hgrow5.size; have HO5 := Lib.hid hown5; have HG5 := Lib.hid hgrow5; have HW5 := Lib.hid hw5; have HZ5 := Lib.hid hz5; clear hx5 hw5 hz5 hown5 hgrow5)
            | (at_builtin; go_loud (refine app_attr w5 rfl (.tmp 44) (.tmp 46) rfl (g0 + 1) u2 l a rfl HW5.out HNM.out w5.heap.size rfl rfl hl4 HZ5.out ?_); intro v7 w7 hw7 hg7))
          have h3 := (((H2.out.below (below_new w2 (.cells #[.string a.name, .string a.value] 37)))).below (below_new _ (.cells #[] 89)))
          have hgb := map_ne H2.out HM.out
          have h5 : Rc w5 b s m2 V := (HG5.out.block b h3.lt (by simpa using Ne.symm hgb)).trans h3
          have h7 : Rc w7 b s m2 V := (hg7.block b h5.lt (fun e => HW5.out.ne h5 (by decide) e.symm)).trans h5
          have hm7 := World.ownsMap.kept HO5.out hg7 (fun e => HW5.out.low (Nat.lt_succ_self _) e.symm)
          rw [← Sn_snoc] at hm7
          have hlo := HA.out.lo
          have hgw : w.grownBy w7 (some b) := g_row (g_row ((HG2.out.trans (g_alloc _ _ _)).trans (g_alloc _ _ _)) HG5.out (fun j hj => by injection hj with hj; omega)) hg7 (fun j hj => by have := (World.ownsRow.lt HW5.out.1 j hj).1; omega)
          have hz7 : g0 < w7.heap.size := Nat.lt_of_lt_of_le (show g0 < w5.heap.size from HZ5.out) hg7.size
          go_roundw
          case rel =>
            have hf := HA.out.few
            have hk2 := HA.out.k_le
            exact ⟨false, m2, l ++ [a], rfl, rfl, hm2, by omega, h7, by rw [List.length_append]; exact hm7, hw7, hgw, HE.out, by rw [List.length_append]; simp; omega, hlo, hz7⟩
          case measure =>
            rw [HP.out]
            exact lt_eq (congrArg (fun z => s.size - z) h7.pos) (by omega)
    · have hlt : decide ((m : Int) < s.size) = false := decide_eq_false (by omega)
      have heq := hal.eq
      rw [drop_nil s m hp, attrs_nil] at heq
      have HA := Lib.hid hal; have HE := Lib.hid heq; clear hal hpos heq
      go_wp2
      go_quiet (fail)
      go_wp2
      rw [Exit.noGoto_ret]
      go_ret3
      exact ⟨_, _, _, m, l, rfl, (HA.out.drew _).own.mono (by omega), hm, by have := HA.out.few; omega, HA.out.rc, HA.out.g.trans (g_dN _ _ _), by rw [if_neg (by simp)]; exact HE.out, fun _ => by omega⟩

end Go.Proofs.YtjhhhlomkfnniaaDoor.To
