/-
  Walks of stage 6: attrs of the reader: a tag's attributes, in a loop with a label, the names seen kept in a map. Walks of stage 6: attrs of the reader: the loop.
  Walks of stage 6: what a '<' begins, whether an end tag stands here. Walks of stage 6: begun, isEndTag. Walks of stage 6: plain, upToEndTag of the reader.
  boltingref02.Has.
  Walks of stage 5: names.among, names.Raw, Soft, the document's own.
  Walks of stage 6: tokens of the call's own in a reader; addText, addClosed. Walks of stage 6: commentOf. Walks of stage 6: addClosed, comment, contents of the reader. Walks of stage 6: contents, tag of the reader.
-/
import Derived.Test.YtgjlfcamgkeibaaGreatDoorCk04
import Derived.Maps.OwnSet
import Derived.StringKeys
import Derived.WalkMore
import Derived.Test.YtgjlfcamgkeibaaGreatDoorCk02
namespace Go.Proofs.YtgjlfcamgkeibaaGreatDoor.To
set_option maxRecDepth 100000
set_option linter.unusedSimpArgs false
set_option linter.unusedVariables false
open Go.RowKit Ba Fm Fo Tm
open Ro (At acells len_acells below_new Sh Ra acells_one info_attr)
open Re (Tab)
open Rm (dec)
def keys (l : List At) : List Lit := l.map fun a => .string (L a.name)
def Sn (l : List At) : DataW Unit := Maps.setOf (.agg []) (keys l)
theorem has_Sn (l : List At) (n : ByteArray) : Maps.has (Sn l) (.string (L n)) = known l n := by
  unfold Sn
  rw [Maps.has_setOf _ _ _ (fun x hx => by
    unfold keys at hx
    obtain ⟨a, _, rfl⟩ := List.mem_map.1 hx
    simp [WideAt.IsKeyLit])]
  unfold keys known
  rw [List.any_map]
  congr 1
  funext a
  show (Lit.string (L a.name)).sameKey (.string (L n)) = decide (a.name = n)
  rw [Bool.eq_iff_iff, WideAt.sameKey_iff (by simp [WideAt.IsKeyLit]), decide_eq_true_iff]
  constructor
  · intro e
    injection e with e
    exact L_inj e
  · intro e
    rw [e]
theorem Sn_snoc (l : List At) (a : At) : Sn (l ++ [a]) = (Sn l).put (.string (L a.name)) (.agg []) := by
  unfold Sn keys
  rw [List.map_append]
  exact Maps.setOf_snoc _ _ _
theorem keyed_str : Maps.Keyed Tryz.prog 9 := Maps.string_keyed Tryz.underlying9
theorem zero_unit (w : World) : (zeroValue 155).run Tryz.prog w = .ok (.agg #[]) w := by kernel_rfl
end Go.Proofs.YtgjlfcamgkeibaaGreatDoor.To

namespace Go.Proofs.YtgjlfcamgkeibaaGreatDoor.To
set_option maxRecDepth 100000
set_option linter.unusedSimpArgs false
set_option linter.unusedVariables false
open Go.RowKit Ba Fm Fo Tm
open Ro (At acells len_acells below_new Sh Ra acells_one info_attr)
open Re (Tab)
open Rm (dec)
structure Al (w wr : World) (b k g0 : Nat) (s : ByteArray) (V v : Value) (sf : Bool) (m : Nat) (l : List At) : Prop where
  m_le : m ≤ s.size
  k_le : k ≤ m
  rc : Rc wr b s m V
  map : wr.ownsMap Tryz.prog 9 unitElem g0 l.length (Sn l)
  own : Aw (g0 + 1) wr v l
  g : w.grownBy wr (some b)
  eq : attrs false [] ((L s).drop k) = attrs sf l ((L s).drop m)
  few : l.length ≤ m - k
  lo : w.heap.size ≤ g0
  hi : g0 < wr.heap.size

theorem Al.drew {w wr : World} {b k g0 m : Nat} {s : ByteArray} {V v : Value} {sf : Bool} {l : List At} (h : Al w wr b k g0 s V v sf m l) (n : Nat) : Al w (wr.drewN n) b k g0 s V v sf m l :=
  ⟨h.m_le, h.k_le, h.rc, h.map, h.own, h.g.trans (g_dN _ _ _), h.eq, h.few, h.lo, h.hi⟩
theorem Aw.drew {N : Nat} {w : World} {v : Value} {l : List At} (h : Aw N w v l) (n : Nat) : Aw N (w.drewN n) v l := h

theorem le2 {w : World} {g : Nat} {o o' : Obj} (h : g < w.heap.size) : g + 1 ≤ ((w.alloc o).alloc o').heap.size := by simp; omega
theorem g_row {w w' w'' : World} {row row2 : Option Nat} (h : w.grownBy w' row) (hg : w'.grownBy w'' row2) (hr : ∀ j, row2 = some j → w.heap.size ≤ j) : w.grownBy w'' row :=
  ⟨hg.os.trans h.os, hg.tape.trans h.tape, hg.output.trans h.output, Nat.le_trans h.size hg.size, fun i hi hne => (hg.block i (Nat.lt_of_lt_of_le hi h.size) (fun e => by have := hr i e.symm; omega)).trans (h.block i hi hne)⟩
theorem lt_eq {a b c : Nat} (h : a = b) (h2 : b < c) : a < c := h ▸ h2
theorem map_ne {w : World} {b k g n : Nat} {s : ByteArray} {V : Value} {l : DataW Unit} (h : Rc w b s k V) (hm : w.ownsMap Tryz.prog 9 unitElem g n l) : g ≠ b := by
  obtain ⟨es, clock, hb, _⟩ := hm
  intro e
  subst e
  unfold Rc at h
  rw [h] at hb
  cases hb
theorem Al.moved {w wr : World} {b k g0 m : Nat} {s : ByteArray} {V v : Value} {sf : Bool} {l : List At} (h : Al w wr b k g0 s V v sf m l) (x u : Nat) :
    Rc ((wr.drewN x).setCell ⟨b, 1, none⟩ (.int .i64 u)) b s u V ∧ w.grownBy ((wr.drewN x).setCell ⟨b, 1, none⟩ (.int .i64 u)) (some b) ∧ Aw (g0 + 1) ((wr.drewN x).setCell ⟨b, 1, none⟩ (.int .i64 u)) v l ∧
      ((wr.drewN x).setCell ⟨b, 1, none⟩ (.int .i64 u)).ownsMap Tryz.prog 9 unitElem g0 l.length (Sn l) ∧ g0 < ((wr.drewN x).setCell ⟨b, 1, none⟩ (.int .i64 u)).heap.size := by
  have hg := g_set (wr.drewN x) b 1 (.int .i64 u)
  have hrc : Rc (wr.drewN x) b s m V := h.rc
  refine ⟨hrc.set1 u, (h.g.trans (g_dN _ _ _)).trans hg, ?_, ?_, Nat.lt_of_lt_of_le h.hi hg.size⟩
  · exact Aw.kept (show Aw (g0 + 1) (wr.drewN x) v l from h.own) hg (.inr (h.own.ne (show wr.heap[b]? = _ from h.rc) (by decide)))
  · exact World.ownsMap.kept (show (wr.drewN x).ownsMap Tryz.prog 9 unitElem g0 l.length (Sn l) from h.map) hg (by have := map_ne h.rc h.map; simpa using this)
theorem Al.read {w wr w2 : World} {b k g0 m m2 : Nat} {s : ByteArray} {V v : Value} {sf : Bool} {l : List At} (h : Al w wr b k g0 s V v sf m l) (x : Nat) (hg : (wr.drewN x).grownBy w2 (some b)) (h2 : Rc w2 b s m2 V) :
    w.grownBy w2 (some b) ∧ Aw (g0 + 1) w2 v l ∧ w2.ownsMap Tryz.prog 9 unitElem g0 l.length (Sn l) ∧ g0 < w2.heap.size := by
  refine ⟨(h.g.trans (g_dN _ _ _)).trans hg, ?_, ?_, Nat.lt_of_lt_of_le h.hi hg.size⟩
  · exact Aw.kept (show Aw (g0 + 1) (wr.drewN x) v l from h.own) hg (.inr (h.own.ne (show wr.heap[b]? = _ from h.rc) (by decide)))
  · exact World.ownsMap.kept (show (wr.drewN x).ownsMap Tryz.prog 9 unitElem g0 l.length (Sn l) from h.map) hg (by have := map_ne h.rc h.map; simpa using this)
theorem len_name (c : UInt8) (r : List UInt8) : (attr c r).1.name.size ≤ r.length + 1 := by
  show (B (lowL (c :: upTo ea r))).size ≤ _
  rw [size_B, len_lowL, List.length_cons]
  have := len_lead (by1 ea) r
  show (lead (by1 ea) r).length + 1 ≤ _
  omega
theorem Aw.mono {N N' : Nat} {w : World} {v : Value} {l : List At} (h : Aw N w v l) (hN : N' ≤ N) : Aw N' w v l := ⟨World.ownsRow.mono h.1 hN, h.2⟩

set_option maxRecDepth 100000 in
set_option maxHeartbeats 8000000 in
theorem attrs_any (b k : Nat) (s : ByteArray) (V : Value) (w : World) (h : Rc w b s k V) (hk : k ≤ s.size) (hs : s.size ≤ 1000000000) (hT : Tab w) (hb0 : 0 < b) :
    Calls Tryz.prog 218 #[rp b] w fun e w' => ∃ v sf en m l, e = .returned (.tuple #[v, .bool sf, .bool en]) ∧ Aw w.heap.size w' v l ∧ m ≤ s.size ∧ l.length ≤ s.size ∧ Rc w' b s m V ∧ w.grownBy w' (some b) ∧
      attrs false [] ((L s).drop k) = (if en = true then some (l, sf, (L s).drop m) else none) ∧ (en = false → m = s.size) := by
  have hmm := @run_makeMap Tryz.prog
  have hs' : s.size ≤ 140737488355328 := by omega
  have h0 : Al w (w.alloc (.map #[] 0)) b k w.heap.size s V (.slice none 0 0) false k [] :=
    ⟨hk, Nat.le_refl _, h.below (below_new w _), by exact World.ownsMap_made _ _ _ _, Aw.nil _ _, g_alloc w _ _, rfl, by simp, Nat.le_refl _, by simp⟩
  have HT := Lib.hid hT
  clear h hT
  go_enter Tryz.func218, Tryz.ntmps218
  go_wp2
  go_step3
  go_wp2
  go_step3
  go_wp2
  clear hmm
  generalize hg0 : w.heap.size = g0 at *
  go_loopw [2, 3, 4] (fun v2 v3 v4 wr => ∃ sf m l, v3 = .bool sf ∧ v4 = .bool false ∧ Al w wr b k g0 s V v2 sf m l) (fun _ _ _ wr => s.size - posOf wr b)
  case atStart => exact ⟨false, k, [], rfl, rfl, h0⟩
  case round =>
    clear h0
    obtain ⟨sf, m, l, rfl, rfl, hal⟩ := hrel
    have hm := hal.m_le
    have c0 := hal.rc.c0; have c1 := hal.rc.c1; have f1 := hal.rc.f 1
    have hpos := hal.rc.pos
    by_cases hp : m < s.size
    · have hlt : decide ((m : Int) < s.size) = true := decide_eq_true (by omega)
      have hcon := drop_cons s m hp
      have e62 : ((s[m].toNat : Int) == 62) = (s[m] == 62) := u8_eq (b := 62)
      have e47 : ((s[m].toNat : Int) == 47) = (s[m] == 47) := u8_eq (b := 47)
      by_cases h62 : s[m] = 62
      · have hb : (s[m] == 62) = true := by rw [h62]; rfl
        rw [hb] at e62
        have heq := hal.eq
        rw [hcon, h62, attrs_end] at heq
        have HA := Lib.hid hal; have HE := Lib.hid heq; clear hal hpos heq hcon h62 hb e47
        go_wp2
        go_quiet (fail)
        go_wp2
        go_quiet (fail)
        go_wp2
        rw [Exit.noGoto_ret]
        go_ret3
        obtain ⟨r1, r2, r3, _⟩ := HA.out.moved _ (m + 1)
        exact ⟨_, _, _, m + 1, l, rfl, r3.mono (by omega), by omega, by have := HA.out.few; omega, r1, r2, by rw [if_pos rfl]; exact HE.out, fun h => by cases h⟩
      by_cases h47 : s[m] = 47
      · have hb : (s[m] == 62) = false := by rw [h47]; rfl
        have hb2 : (s[m] == 47) = true := by rw [h47]; rfl
        rw [hb] at e62
        rw [hb2] at e47
        have heq := hal.eq
        rw [hcon, attrs_skip _ _ _ h62 (.inl h47), hb2] at heq
        have HA := Lib.hid hal; have HE := Lib.hid heq; have HP := Lib.hid hpos; clear hal hpos heq hcon h62 h47 hb hb2
        go_wp2
        go_quiet (fail)
        go_wp2
        go_quiet (fail)
        go_wp2
        go_roundw
        case rel =>
          obtain ⟨r1, r2, r3, r4, r5⟩ := HA.out.moved _ (m + 1)
          have hf := HA.out.few
          have hk2 := HA.out.k_le
          exact ⟨true, m + 1, l, rfl, rfl, by omega, by omega, r1, r4, r3, r2, HE.out, by omega, HA.out.lo, r5⟩
        case measure =>
          obtain ⟨r1, _⟩ := HA.out.moved _ (m + 1)
          rw [HP.out]
          exact lt_eq (congrArg (fun z => s.size - z) r1.pos) (by omega)
      have hb : (s[m] == 62) = false := by simpa using h62
      have hb2 : (s[m] == 47) = false := by simpa using h47
      rw [hb] at e62
      rw [hb2] at e47
      cases hsp : sp s[m] with
      | true =>
        have heq := hal.eq
        rw [hcon, attrs_skip _ _ _ h62 (.inr hsp), hb2] at heq
        have HA := Lib.hid hal; have HE := Lib.hid heq; have HP := Lib.hid hpos; have HS := Lib.hid hsp; clear hal hpos heq hcon h62 h47 hb hb2 hsp
        go_wp2
        go_quiet (fail)
        go_wp2
        go_quiet (fail)
        go_wp2_with (go_at_call 220; refine (space_any s[m] _).mono ?_; rw [HS.out]; rintro e w' ⟨rfl, rfl⟩)
        go_roundw
        case rel =>
          obtain ⟨r1, r2, r3, r4, r5⟩ := HA.out.moved _ (m + 1)
          have hf := HA.out.few
          have hk2 := HA.out.k_le
          exact ⟨false, m + 1, l, rfl, rfl, by omega, by omega, r1, r4, r3, r2, HE.out, by omega, HA.out.lo, r5⟩
        case measure =>
          obtain ⟨r1, _⟩ := HA.out.moved _ (m + 1)
          rw [HP.out]
          exact lt_eq (congrArg (fun z => s.size - z) r1.pos) (by omega)
      | false =>
        have heq := hal.eq
        rw [hcon, attrs_attr _ _ _ h62 (by rw [hsp]; simpa using h47)] at heq
        have hpl := len_attr s[m] ((L s).drop (m + 1))
        have HA := Lib.hid hal; have HE := Lib.hid heq; have HP := Lib.hid hpos; have HS := Lib.hid hsp; have HL := Lib.hid hpl; clear hal hpos heq hcon h62 h47 hb hb2 hsp hpl
        go_wp2
        go_quiet (fail)
        go_wp2
        go_quiet (fail)
        go_wp2_with (go_at_call 220; refine (space_any s[m] _).mono ?_; rw [HS.out]; rintro e w' ⟨rfl, rfl⟩)
        refine (attr_any b m s V _ (HA.out.rc.drew _) hp (by omega) (tab_kept HT.out (HA.out.g.trans (g_dN _ _ _)) hb0) hb0).mono ?_
        rintro e w2 ⟨rfl, m2, hm2, hd2, h2, hg2⟩
        obtain ⟨r1, r2, r3, r4⟩ := HA.out.read _ hg2 h2
        have hns := len_name s[m] ((L s).drop (m + 1))
        have heq := HE.out
        have hln := HL.out
        rw [← hd2] at heq hln
        obtain ⟨a, ha⟩ : ∃ a, (attr s[m] ((L s).drop (m + 1))).1 = a := ⟨_, rfl⟩
        rw [ha] at heq hns ⊢
        rw [List.length_drop, size_L] at hns
        rw [List.length_drop, List.length_drop, size_L] at hln
        have hmm2 : m + 1 ≤ m2 := by omega
        have hnm : a.name.size ≤ maxLen := by unfold maxLen; omega
        have hkey : keyOf Tryz.prog 9 (.string a.name) = some (.string (L a.name)) := WideMaps.keyOf_string_mk Tryz.underlying9 hnm
        have hbx := Bx.new w2 a.name a.value
        have HB := Lib.hid hbx; have HG2 := Lib.hid r1; have HW := Lib.hid r2; have HM := Lib.hid r3; have H2 := Lib.hid h2; have HI := Lib.hid r4; have HLN := Lib.hid hln; have HNM := Lib.hid hnm
        clear hbx r1 r2 r3 r4 h2 hg2 hd2 ha hns hln hnm HL HE
        cases hq : known l a.name with
        | true =>
          have hp2 : put l a = l := by unfold put; rw [if_pos hq]
          rw [hp2] at heq
          have hhas := has_Sn l a.name
          rw [hq] at hhas
          have HE := Lib.hid heq; have HH := Lib.hid hhas; clear heq hhas hp2 hq
          go_wp2_with (at_lookup; refine wpList_lookup_own_unit _ rfl _ _ 167 rfl 9 155 keyed_str Tryz.underlying167 (zero_unit _) g0 l.length (Sn l) rfl (HM.out.alloc _) _ _ rfl hkey ?_; rw [HH.out])
          go_roundw
          case rel =>
            have h3 := (((H2.out.below (below_new w2 (.cells #[.string a.name, .string a.value] 51)))).below (below_new _ (.cells #[] 155)))
            have hf := HA.out.few
            have hk2 := HA.out.k_le
            exact ⟨false, m2, l, rfl, rfl, hm2, by omega, h3, (HM.out.alloc _).alloc _, (HW.out.alloc _).alloc _, (HG2.out.trans (g_alloc _ _ _)).trans (g_alloc _ _ _), HE.out, by omega, HA.out.lo, by have := HI.out; simp; omega⟩
          case measure =>
            have h3 := (((H2.out.below (below_new w2 (.cells #[.string a.name, .string a.value] 51)))).below (below_new _ (.cells #[] 155)))
            rw [HP.out]
            exact lt_eq (congrArg (fun z => s.size - z) h3.pos) (by omega)
        | false =>
          have hp2 : put l a = l ++ [a] := by unfold put; rw [if_neg (by rw [hq]; simp)]
          rw [hp2] at heq
          have hhas := has_Sn l a.name
          rw [hq] at hhas
          have hlen : l.length < maxLen := by have := HA.out.few; unfold maxLen; omega
          have hl4 : l.length ≤ 4000000000 := by have := HA.out.few; omega
          have HE := Lib.hid heq; have HH := Lib.hid hhas; clear heq hhas hp2 hq
          have hne1 : g0 ≠ w2.heap.size := by have := HI.out; omega
          have hbb := H2.out.lt
          go_wp2_with (first
            | (at_lookup; refine wpList_lookup_own_unit _ rfl _ _ 167 rfl 9 155 keyed_str Tryz.underlying167 (zero_unit _) g0 l.length (Sn l) rfl (HM.out.alloc _) _ _ rfl hkey ?_; rw [HH.out])
            | (at_mapUpdate; refine wpList_mapUpdate_own _ rfl _ _ _ 167 rfl 9 155 keyed_str Tryz.underlying167 (unitElem (H := Unit)) g0 l.length (Sn l) rfl ((HM.out.alloc _).alloc _) hlen _ _ _ rfl rfl hkey _ [] unitElem_mk ?_; intro w5 hown5 hgrow5; have hx5 := ((HB.out).below (below_new _ (.cells #[] 155))).kept hgrow5 hne1.symm; have y0 := hx5.c0; have y1 := hx5.c1; have hw5 := (((HW.out.alloc (.cells #[.string a.name, .string a.value] 51)).alloc (.cells #[] 155)).kept hgrow5 (.inr (HW.out.low (Nat.lt_succ_self _)))); have hz5 : g0 + 1 ≤ w5.heap.size := Nat.le_trans (le2 HI.out) hgrow5.size; have HO5 := Lib.hid hown5; have HG5 := Lib.hid hgrow5; have HW5 := Lib.hid hw5; have HZ5 := Lib.hid hz5; clear hx5 hw5 hz5 hown5 hgrow5)
            | (at_builtin; go_loud (refine app_attr w5 rfl (.tmp 44) (.tmp 46) rfl (g0 + 1) u2 l a rfl HW5.out HNM.out w5.heap.size rfl rfl hl4 HZ5.out ?_); intro v7 w7 hw7 hg7))
          have h3 := (((H2.out.below (below_new w2 (.cells #[.string a.name, .string a.value] 51)))).below (below_new _ (.cells #[] 155)))
          have hgb := map_ne H2.out HM.out
          have h5 : Rc w5 b s m2 V := (HG5.out.block b h3.lt (by simpa using Ne.symm hgb)).trans h3
          have h7 : Rc w7 b s m2 V := (hg7.block b h5.lt (fun e => HW5.out.ne h5 (by decide) e.symm)).trans h5
          have hm7 := World.ownsMap.kept HO5.out hg7 (fun e => HW5.out.low (Nat.lt_succ_self _) e.symm)
          rw [← Sn_snoc] at hm7
          have hlo := HA.out.lo
          have hgw : w.grownBy w7 (some b) := g_row (g_row ((HG2.out.trans (g_alloc _ _ _)).trans (g_alloc _ _ _)) HG5.out (fun j hj => by injection hj with hj; omega)) hg7 (fun j hj => by have := (World.ownsRow.lt HW5.out.1 j hj).1; omega)
          have hz7 : g0 < w7.heap.size := Nat.lt_of_lt_of_le (show g0 < w5.heap.size from HZ5.out) hg7.size
          go_roundw
          case rel =>
            have hf := HA.out.few
            have hk2 := HA.out.k_le
            exact ⟨false, m2, l ++ [a], rfl, rfl, hm2, by omega, h7, by rw [List.length_append]; exact hm7, hw7, hgw, HE.out, by rw [List.length_append]; simp; omega, hlo, hz7⟩
          case measure =>
            rw [HP.out]
            exact lt_eq (congrArg (fun z => s.size - z) h7.pos) (by omega)
    · have hlt : decide ((m : Int) < s.size) = false := decide_eq_false (by omega)
      have heq := hal.eq
      rw [drop_nil s m hp, attrs_nil] at heq
      have HA := Lib.hid hal; have HE := Lib.hid heq; clear hal hpos heq
      go_wp2
      go_quiet (fail)
      go_wp2
      rw [Exit.noGoto_ret]
      go_ret3
      exact ⟨_, _, _, m, l, rfl, (HA.out.drew _).own.mono (by omega), hm, by have := HA.out.few; omega, HA.out.rc, HA.out.g.trans (g_dN _ _ _), by rw [if_neg (by simp)]; exact HE.out, fun _ => by omega⟩

end Go.Proofs.YtgjlfcamgkeibaaGreatDoor.To

namespace Go.Proofs.YtgjlfcamgkeibaaGreatDoor.To
set_option maxRecDepth 100000
set_option linter.unusedSimpArgs false
set_option linter.unusedVariables false
open Go.RowKit Ba Fm Fo Tm
theorem isEmpty_L {s : ByteArray} (h : ¬ 0 < s.size) : L s = [] := List.eq_nil_of_length_eq_zero (by rw [size_L]; omega)
theorem L_cons (s : ByteArray) (h : 0 < s.size) : L s = s[0] :: (L s).drop 1 := by
  have := drop_cons s 0 h
  rwa [List.drop_zero] at this
theorem letter1 (c : UInt8) (w : World) (q : Bool) (hq : lr c = q) : Calls Tryz.prog 213 #[.int .u8 c.toNat] w fun e w' => e = .returned (.bool q) ∧ w = w' := by
  subst hq
  exact letter_any c w

set_option maxHeartbeats 1000000 in
theorem slash_any (s : ByteArray) (w : World) (hs : s.size ≤ 140737488355328) : Calls Tryz.prog 214 #[.string s] w fun e w' => e = .returned (.int .i64 (slashed (L s))) ∧ w = w' := by
  by_cases hp : 0 < s.size
  · have hl := L_cons s hp
    have he : s.toList.isEmpty = false := by rw [toList_L, hl]; rfl
    cases hr : lr s[0] with
    | true =>
      have hv : slashed (L s) = 2 := by rw [hl]; simp [slashed, hr]
      have HR := Lib.hid hr; have HV := Lib.hid hv; clear hr hv hl
      go_enter Tryz.func214, Tryz.ntmps214
      go_wp2_with (go_at_call 213; refine (letter1 s[0] _ true HR.out).mono ?_; rintro e w' ⟨rfl, rfl⟩)
      go_ret
      exact ⟨ret_int (by rw [HV.out]; rfl), rfl⟩
    | false =>
      have e62 : ((s[0].toNat : Int) == 62) = (s[0] == 62) := u8_eq (b := 62)
      cases h62 : (s[0] == 62) with
      | true =>
        have hv : slashed (L s) = 3 := by rw [hl]; have := eq_of_beq h62; simp [slashed, hr, this]; rw [this] at hr; revert hr; decide
        rw [h62] at e62
        have HR := Lib.hid hr; have HV := Lib.hid hv; clear hr hv hl h62
        go_enter Tryz.func214, Tryz.ntmps214
        go_wp2_with (go_at_call 213; refine (letter1 s[0] _ false HR.out).mono ?_; rintro e w' ⟨rfl, rfl⟩)
        go_ret
        exact ⟨ret_int (by rw [HV.out]; rfl), rfl⟩
      | false =>
        have hv : slashed (L s) = 6 := by rw [hl]; have : ¬ s[0] = 62 := by simpa using h62
                                          simp [slashed, hr, this]
        rw [h62] at e62
        have HR := Lib.hid hr; have HV := Lib.hid hv; clear hr hv hl h62
        go_enter Tryz.func214, Tryz.ntmps214
        go_wp2_with (go_at_call 213; refine (letter1 s[0] _ false HR.out).mono ?_; rintro e w' ⟨rfl, rfl⟩)
        go_ret
        exact ⟨ret_int (by rw [HV.out]; rfl), rfl⟩
  · have hl := isEmpty_L hp
    have he : s.toList.isEmpty = true := by rw [toList_L, hl]; rfl
    have hv : slashed (L s) = 0 := by rw [hl]; rfl
    have HV := Lib.hid hv; clear hv hl
    go_enter Tryz.func214, Tryz.ntmps214
    go_wp2
    go_ret
    exact ⟨ret_int (by rw [HV.out]; rfl), rfl⟩

theorem starts1 (s t : ByteArray) (w : World) (tl : List UInt8) (q : Bool) (hs : s.size ≤ 140737488355328) (ht : t.size ≤ 140737488355328) (hl : L t = tl) (hq : pre tl (L s) = q) :
    Calls Tryz.prog 237 #[.string s, .string t] w fun e w' => e = .returned (.bool q) ∧ w = w' := by
  subst hl hq
  exact starts_any s t w hs ht
theorem same1 (a b : ByteArray) (w : World) (q : Bool) (ha : a.size ≤ 140737488355328) (hb : b.size ≤ 140737488355328) (hq : decide (lowL (L a) = lowL (L b)) = q) :
    Calls Tryz.prog 238 #[.string a, .string b] w fun e w' => e = .returned (.bool q) ∧ Below w.heap.size w w' := by
  subst hq
  exact same_any a b w ha hb

theorem marked_4 {r : List UInt8} (h : pre [45, 45] r = true) : marked r = 4 := by unfold marked; rw [if_pos h]
theorem marked_5 {r : List UInt8} (h : pre [45, 45] r = false) (h1 : lowL (r.take 7) = [100, 111, 99, 116, 121, 112, 101]) (h2 : by1 lr (r.drop 7) = false) : marked r = 5 := by unfold marked; rw [if_neg (by rw [h]; simp), if_pos ⟨h1, h2⟩]
theorem marked_6 {r : List UInt8} (h : pre [45, 45] r = false) (h1 : ¬ (lowL (r.take 7) = [100, 111, 99, 116, 121, 112, 101] ∧ by1 lr (r.drop 7) = false)) : marked r = 6 := by unfold marked; rw [if_neg (by rw [h]; simp), if_neg h1]
theorem word7 : L (⟨#[100, 111, 99, 116, 121, 112, 101]⟩ : ByteArray) = [100, 111, 99, 116, 121, 112, 101] ∧ lowL [100, 111, 99, 116, 121, 112, 101] = [100, 111, 99, 116, 121, 112, 101] := ⟨rfl, by decide⟩
theorem L_take (s : ByteArray) (n : Nat) : L (s.extract 0 n) = (L s).take n := by rw [L_extract, List.drop_zero, Nat.sub_zero]

set_option maxHeartbeats 2000000 in
theorem mark_any (s : ByteArray) (w : World) (hs : s.size ≤ 140737488355328) : Calls Tryz.prog 215 #[.string s] w fun e w' => e = .returned (.int .i64 (marked (L s))) ∧ Below w.heap.size w w' := by
  have h4 : (4 : Nat) ≤ 5 := by decide
  cases hpre : pre [45, 45] (L s) with
  | true =>
    have hv := marked_4 hpre
    have HP := Lib.hid hpre; have HV := Lib.hid hv; clear hpre hv
    go_enter Tryz.func215, Tryz.ntmps215
    go_wp2_with (go_at_call 237; refine (starts1 s _ _ [45, 45] true hs (by decide) rfl HP.out).mono ?_; rintro e w' ⟨rfl, rfl⟩)
    go_ret
    exact ⟨ret_int (by rw [HV.out]; rfl), Below.refl _ _⟩
  | false =>
    by_cases h7 : 7 ≤ s.size
    · have hd : decide ((s.size : Int) < 7) = false := decide_eq_false (by omega)
      have hx : (s.extract 0 7).size ≤ 140737488355328 := Nat.le_trans (size_extract _ _ _) hs
      have hsm : decide (lowL (L (s.extract 0 7)) = lowL (L (⟨#[100, 111, 99, 116, 121, 112, 101]⟩ : ByteArray))) = decide (lowL ((L s).take 7) = [100, 111, 99, 116, 121, 112, 101]) := by rw [L_take, word7.1, word7.2]
      by_cases hw : lowL ((L s).take 7) = [100, 111, 99, 116, 121, 112, 101]
      · rw [decide_eq_true hw] at hsm
        by_cases h8 : 7 < s.size
        · have hd8 : decide ((7 : Int) < s.size) = true := decide_eq_true (by omega)
          cases hr : lr s[7] with
          | true =>
            have hv := marked_6 hpre (fun e => by have := e.2; rw [by1_at lr s 7 h8 true hr] at this; cases this)
            have HP := Lib.hid hpre; have HV := Lib.hid hv; have HS := Lib.hid hsm; have HR := Lib.hid hr; clear hpre hv hsm hr hw
            go_enter Tryz.func215, Tryz.ntmps215
            go_wp2_with (first
              | (go_at_call 237; refine (starts1 s _ _ [45, 45] false hs (by decide) rfl HP.out).mono ?_; rintro e w' ⟨rfl, rfl⟩)
              | (go_at_call 238; refine (same1 _ _ w true hx (by decide) HS.out).mono ?_; rintro e w1 ⟨rfl, hb1⟩)
              | (go_at_call 213; refine (letter1 s[7] _ true HR.out).mono ?_; rintro e w' ⟨rfl, rfl⟩))
            go_ret
            exact ⟨ret_int (by rw [HV.out]; rfl), hb1⟩
          | false =>
            have hv := marked_5 hpre hw (by1_at lr s 7 h8 false hr)
            have HP := Lib.hid hpre; have HV := Lib.hid hv; have HS := Lib.hid hsm; have HR := Lib.hid hr; clear hpre hv hsm hr hw
            go_enter Tryz.func215, Tryz.ntmps215
            go_wp2_with (first
              | (go_at_call 237; refine (starts1 s _ _ [45, 45] false hs (by decide) rfl HP.out).mono ?_; rintro e w' ⟨rfl, rfl⟩)
              | (go_at_call 238; refine (same1 _ _ w true hx (by decide) HS.out).mono ?_; rintro e w1 ⟨rfl, hb1⟩)
              | (go_at_call 213; refine (letter1 s[7] _ false HR.out).mono ?_; rintro e w' ⟨rfl, rfl⟩))
            go_ret
            exact ⟨ret_int (by rw [HV.out]; rfl), hb1⟩
        · have hd8 : decide ((7 : Int) < s.size) = false := decide_eq_false (by omega)
          have hv := marked_5 hpre hw (by rw [drop_nil s 7 h8]; rfl)
          have HP := Lib.hid hpre; have HV := Lib.hid hv; have HS := Lib.hid hsm; clear hpre hv hsm hw
          go_enter Tryz.func215, Tryz.ntmps215
          go_wp2_with (first
            | (go_at_call 237; refine (starts1 s _ _ [45, 45] false hs (by decide) rfl HP.out).mono ?_; rintro e w' ⟨rfl, rfl⟩)
            | (go_at_call 238; refine (same1 _ _ w true hx (by decide) HS.out).mono ?_; rintro e w1 ⟨rfl, hb1⟩))
          go_ret
          exact ⟨ret_int (by rw [HV.out]; rfl), hb1⟩
      · rw [decide_eq_false hw] at hsm
        have hv := marked_6 hpre (fun e => hw e.1)
        have HP := Lib.hid hpre; have HV := Lib.hid hv; have HS := Lib.hid hsm; clear hpre hv hsm hw
        go_enter Tryz.func215, Tryz.ntmps215
        go_wp2_with (first
          | (go_at_call 237; refine (starts1 s _ _ [45, 45] false hs (by decide) rfl HP.out).mono ?_; rintro e w' ⟨rfl, rfl⟩)
          | (go_at_call 238; refine (same1 _ _ w false hx (by decide) HS.out).mono ?_; rintro e w1 ⟨rfl, hb1⟩))
        go_ret
        exact ⟨ret_int (by rw [HV.out]; rfl), hb1⟩
    · have hd : decide ((s.size : Int) < 7) = true := decide_eq_true (by omega)
      have hv := marked_6 hpre (fun e => by
        have := congrArg List.length e.1
        rw [len_lowL, List.length_take, size_L] at this
        simp at this
        omega)
      have HP := Lib.hid hpre; have HV := Lib.hid hv; clear hpre hv
      go_enter Tryz.func215, Tryz.ntmps215
      go_wp2_with (go_at_call 237; refine (starts1 s _ _ [45, 45] false hs (by decide) rfl HP.out).mono ?_; rintro e w' ⟨rfl, rfl⟩)
      go_ret
      exact ⟨ret_int (by rw [HV.out]; rfl), Below.refl _ _⟩

end Go.Proofs.YtgjlfcamgkeibaaGreatDoor.To

namespace Go.Proofs.YtgjlfcamgkeibaaGreatDoor.To
set_option maxRecDepth 100000
set_option linter.unusedSimpArgs false
set_option linter.unusedVariables false
open Go.RowKit Ba Fm Fo Tm
theorem below_d (w : World) (n : Nat) : Below w.heap.size w (w.drewN n) := ⟨rfl, rfl, rfl, Nat.le_refl _, fun _ _ => rfl⟩
theorem below_d2 {w w' : World} {n : Nat} (h : Below (w.drewN n).heap.size (w.drewN n) w') : Below w.heap.size w w' := ⟨h.os, h.tape, h.output, h.size, h.block⟩
theorem begun_two (a c : UInt8) (r : List UInt8) : Tm.begun (a :: c :: r) = if a = 60 then (if lr c = true then 1 else if c = 47 then slashed r else if c = 33 then marked r else if c = 63 then 6 else 0) else 0 := rfl
theorem L_two (s : ByteArray) (h : 2 ≤ s.size) : L s = s[0] :: s[1] :: (L s).drop 2 := by
  have h0 := L_cons s (by omega)
  rw [drop_cons s 1 (by omega)] at h0
  exact h0
theorem begun_few {s : ByteArray} (h : ¬ 2 ≤ s.size) : Tm.begun (L s) = 0 := by
  have hl : (L s).length < 2 := by rw [size_L]; omega
  match h : L s, hl with
  | [], _ => rfl
  | [a], _ =>
    show (if a = 60 then 0 else 0) = 0
    split <;> rfl
theorem slash1 (s : ByteArray) (w : World) (l : List UInt8) (hs : s.size ≤ 140737488355328) (hl : L s = l) : Calls Tryz.prog 214 #[.string s] w fun e w' => e = .returned (.int .i64 (slashed l)) ∧ w = w' := by
  subst hl
  exact slash_any s w hs
theorem mark1 (s : ByteArray) (w : World) (l : List UInt8) (hs : s.size ≤ 140737488355328) (hl : L s = l) : Calls Tryz.prog 215 #[.string s] w fun e w' => e = .returned (.int .i64 (marked l)) ∧ Below w.heap.size w w' := by
  subst hl
  exact mark_any s w hs

set_option maxHeartbeats 2000000 in
theorem begun_any (s : ByteArray) (w : World) (hs : s.size ≤ 140737488355328) : Calls Tryz.prog 175 #[.string s] w fun e w' => e = .returned (.int .i64 (Tm.begun (L s))) ∧ Below w.heap.size w w' := by
  by_cases h2 : 2 ≤ s.size
  · have hd : decide ((s.size : Int) < 2) = false := decide_eq_false (by omega)
    have hl := L_two s h2
    have hx : (s.extract 2 s.size).size ≤ 140737488355328 := Nat.le_trans (size_extract _ _ _) hs
    have hxl : L (s.extract 2 s.size) = (L s).drop 2 := L_end s 2
    have e60 : ((s[0].toNat : Int) == 60) = (s[0] == 60) := u8_eq (b := 60)
    have h1 : 1 < s.size := by omega
    have h0 : 0 < s.size := by omega
    have i2 : (2 : Int) ≤ (s.size : Int) := by omega
    have j1 : (1 : Int) < (s.size : Int) := by omega
    cases h60 : (s[0] == 60) with
    | false =>
      have hv : Tm.begun (L s) = 0 := by rw [hl, begun_two, if_neg (by simpa using h60)]
      rw [h60] at e60
      have HV := Lib.hid hv; clear hv hl h60 hxl
      go_enter Tryz.func175, Tryz.ntmps175
      go_wp2
      go_ret
      exact ⟨ret_int (by rw [HV.out]; rfl), Below.refl _ _⟩
    | true =>
      have hb : Tm.begun (L s) = if lr s[1] = true then 1 else if s[1] = 47 then slashed ((L s).drop 2) else if s[1] = 33 then marked ((L s).drop 2) else if s[1] = 63 then 6 else 0 := by
        conv => lhs; rw [hl]
        rw [begun_two, if_pos (by simpa using h60)]
      rw [h60] at e60
      have e47 : ((s[1].toNat : Int) == 47) = (s[1] == 47) := u8_eq (b := 47)
      have e33 : ((s[1].toNat : Int) == 33) = (s[1] == 33) := u8_eq (b := 33)
      have e63 : ((s[1].toNat : Int) == 63) = (s[1] == 63) := u8_eq (b := 63)
      have HX := Lib.hid hxl
      clear hl h60 hxl
      cases hr : lr s[1] with
      | true =>
        rw [if_pos hr] at hb
        have HV := Lib.hid hb; have HR := Lib.hid hr; clear hb hr
        go_enter Tryz.func175, Tryz.ntmps175
        go_wp2
        go_quiet (fail)
        go_wp2_with (go_at_call 213; refine (letter1 s[1] _ true HR.out).mono ?_; rintro e w' ⟨rfl, rfl⟩)
        go_ret
        exact ⟨ret_int (by rw [HV.out]; rfl), below_d _ _⟩
      | false =>
        rw [if_neg (by rw [hr]; simp)] at hb
        have HR := Lib.hid hr; clear hr
        cases h47 : (s[1] == 47) with
        | true =>
          rw [if_pos (by simpa using h47)] at hb
          rw [h47] at e47
          have HV := Lib.hid hb; clear hb h47
          go_enter Tryz.func175, Tryz.ntmps175
          go_wp2
          go_quiet (fail)
          go_wp2_with (first
            | (go_at_call 213; refine (letter1 s[1] _ false HR.out).mono ?_; rintro e w' ⟨rfl, rfl⟩)
            | (go_at_call 214; refine (slash1 _ _ _ hx HX.out).mono ?_; rintro e w' ⟨rfl, rfl⟩))
          go_ret
          exact ⟨ret_int (by rw [HV.out]), below_d _ _⟩
        | false =>
          rw [if_neg (by simpa using h47)] at hb
          rw [h47] at e47
          clear h47
          cases h33 : (s[1] == 33) with
          | true =>
            rw [if_pos (by simpa using h33)] at hb
            rw [h33] at e33
            have HV := Lib.hid hb; clear hb h33
            go_enter Tryz.func175, Tryz.ntmps175
            go_wp2
            go_quiet (fail)
            go_wp2_with (first
              | (go_at_call 213; refine (letter1 s[1] _ false HR.out).mono ?_; rintro e w' ⟨rfl, rfl⟩)
              | (go_at_call 215; refine (mark1 _ _ _ hx HX.out).mono ?_; rintro e w1 ⟨rfl, hb1⟩))
            go_ret
            exact ⟨ret_int (by rw [HV.out]), below_d2 hb1⟩
          | false =>
            rw [if_neg (by simpa using h33)] at hb
            rw [h33] at e33
            clear h33
            cases h63 : (s[1] == 63) with
            | true =>
              rw [if_pos (by simpa using h63)] at hb
              rw [h63] at e63
              have HV := Lib.hid hb; clear hb h63
              go_enter Tryz.func175, Tryz.ntmps175
              go_wp2
              go_quiet (fail)
              go_wp2_with (go_at_call 213; refine (letter1 s[1] _ false HR.out).mono ?_; rintro e w' ⟨rfl, rfl⟩)
              go_ret
              exact ⟨ret_int (by rw [HV.out]; rfl), below_d _ _⟩
            | false =>
              rw [if_neg (by simpa using h63)] at hb
              rw [h63] at e63
              have HV := Lib.hid hb; clear hb h63
              go_enter Tryz.func175, Tryz.ntmps175
              go_wp2
              go_quiet (fail)
              go_wp2_with (go_at_call 213; refine (letter1 s[1] _ false HR.out).mono ?_; rintro e w' ⟨rfl, rfl⟩)
              go_ret
              exact ⟨ret_int (by rw [HV.out]; rfl), below_d _ _⟩
  · have hd : decide ((s.size : Int) < 2) = true := decide_eq_true (by omega)
    have hv := begun_few h2
    have HV := Lib.hid hv; clear hv
    go_enter Tryz.func175, Tryz.ntmps175
    go_wp2
    go_ret
    exact ⟨ret_int (by rw [HV.out]; rfl), Below.refl _ _⟩

theorem isEnd_short {n s : ByteArray} (h : ¬ 2 + n.size < s.size) : isEnd (L n) (L s) = false := by
  unfold isEnd
  rw [size_L, drop_nil s _ h]
  simp [by1]
set_option maxHeartbeats 2000000 in
theorem isEndTag_any (s n : ByteArray) (w : World) (hs : s.size ≤ 140737488351232) (hn : n.size ≤ 140737488351232) :
    Calls Tryz.prog 210 #[.string s, .string n] w fun e w' => e = .returned (.bool (isEnd (L n) (L s))) ∧ Below w.heap.size w w' := by
  by_cases h2 : 2 + n.size < s.size
  · have hd : decide ((2 : Int) + n.size < s.size) = true := decide_eq_true (by omega)
    have hx : (s.extract 2 (2 + n.size)).size ≤ 140737488355328 := Nat.le_trans (size_extract _ _ _) (by omega)
    have i0 : (2 : Int) ≤ 2 + (n.size : Int) := by omega
    have i1 : (2 : Int) + (n.size : Int) ≤ (s.size : Int) := by omega
    have hxl : L (s.extract 2 (2 + n.size)) = ((L s).drop 2).take n.size := by rw [L_extract, Nat.add_sub_cancel_left]
    cases hp : pre [60, 47] (L s) with
    | false =>
      have hv : isEnd (L n) (L s) = false := by unfold isEnd; rw [hp]; rfl
      have HP := Lib.hid hp; have HV := Lib.hid hv; clear hp hv hxl
      go_enter Tryz.func210, Tryz.ntmps210
      go_wp2_with (go_at_call 237; refine (starts1 s _ _ [60, 47] false (by omega) (by decide) rfl HP.out).mono ?_; rintro e w' ⟨rfl, rfl⟩)
      go_ret
      exact ⟨ret_bool HV.out.symm, Below.refl _ _⟩
    | true =>
      have hsame : decide (lowL (L (s.extract 2 (2 + n.size))) = lowL (L n)) = decide (lowL (((L s).drop 2).take n.size) = lowL (L n)) := by rw [hxl]
      have hb1 : by1 en ((L s).drop (2 + n.size)) = en s[2 + n.size] := by rw [drop_cons s _ h2]; rfl
      have hv : isEnd (L n) (L s) = (decide (lowL (((L s).drop 2).take n.size) = lowL (L n)) && en s[2 + n.size]) := by unfold isEnd; rw [hp, size_L, hb1]; rfl
      cases hq : decide (lowL (((L s).drop 2).take n.size) = lowL (L n)) with
      | false =>
        rw [hq] at hv hsame
        have HP := Lib.hid hp; have HV := Lib.hid hv; have HS := Lib.hid hsame; clear hp hv hxl hsame hq hb1
        go_enter Tryz.func210, Tryz.ntmps210
        go_wp2_with (first
          | (go_at_call 237; refine (starts1 s _ _ [60, 47] true (by omega) (by decide) rfl HP.out).mono ?_; rintro e w' ⟨rfl, rfl⟩)
          | (go_at_call 238; refine (same1 _ _ w false hx (by omega) HS.out).mono ?_; rintro e w1 ⟨rfl, hb1⟩))
        go_ret
        exact ⟨ret_bool HV.out.symm, hb1⟩
      | true =>
        rw [hq] at hv hsame
        have HP := Lib.hid hp; have HV := Lib.hid hv; have HS := Lib.hid hsame; clear hp hv hxl hsame hq hb1
        go_enter Tryz.func210, Tryz.ntmps210
        go_wp2_with (first
          | (go_at_call 237; refine (starts1 s _ _ [60, 47] true (by omega) (by decide) rfl HP.out).mono ?_; rintro e w' ⟨rfl, rfl⟩)
          | (go_at_call 238; refine (same1 _ _ w true hx (by omega) HS.out).mono ?_; rintro e w1 ⟨rfl, hb1⟩)
          | (go_at_call 217; refine (endsName_any s[2 + n.size] _).mono ?_; rintro e w' ⟨rfl, rfl⟩))
        go_ret
        exact ⟨ret_bool HV.out.symm, hb1⟩
  · have hd : decide ((2 : Int) + n.size < s.size) = false := decide_eq_false (by omega)
    have hv := isEnd_short h2
    have HV := Lib.hid hv; clear hv
    go_enter Tryz.func210, Tryz.ntmps210
    go_wp2
    go_ret
    exact ⟨ret_bool HV.out.symm, Below.refl _ _⟩

end Go.Proofs.YtgjlfcamgkeibaaGreatDoor.To

namespace Go.Proofs.YtgjlfcamgkeibaaGreatDoor.To
set_option maxRecDepth 100000
set_option linter.unusedSimpArgs false
set_option linter.unusedVariables false
open Go.RowKit Ba Fm Fo Tm
theorem begun1 (s : ByteArray) (w : World) (l : List UInt8) (n : Nat) (hs : s.size ≤ 140737488355328) (hl : L s = l) (hn : Tm.begun l = n) : Calls Tryz.prog 175 #[.string s] w fun e w' => e = .returned (.int .i64 n) ∧ Below w.heap.size w w' := by
  subst hl hn
  exact begun_any s w hs
theorem endTag1 (s n : ByteArray) (w : World) (l : List UInt8) (q : Bool) (hs : s.size ≤ 140737488351232) (hn : n.size ≤ 140737488351232) (hl : L s = l) (hq : isEnd (L n) l = q) :
    Calls Tryz.prog 210 #[.string s, .string n] w fun e w' => e = .returned (.bool q) ∧ Below w.heap.size w w' := by
  subst hl hq
  exact isEndTag_any s n w hs hn
theorem rc_next {w wr w2 : World} {b k m : Nat} {s : ByteArray} {v : Value} (h : Rc wr b s m v) (hg : w.grownBy wr (some b)) (hb : Below wr.drew.heap.size wr.drew w2) : Rc w2 b s m v ∧ w.grownBy w2 (some b) :=
  ⟨(show Rc wr.drew b s m v from h).below hb, g_below (show w.grownBy wr.drew (some b) from ⟨hg.os, hg.tape, hg.output, hg.size, hg.block⟩) hb⟩

set_option maxRecDepth 100000 in
set_option maxHeartbeats 4000000 in
theorem plain_any (b k : Nat) (s : ByteArray) (v : Value) (w : World) (h : Rc w b s k v) (hk : k ≤ s.size) (hs : s.size ≤ 140737488351232) :
    Calls Tryz.prog 122 #[rp b] w fun e w' => e = .returned (.string (B (lead (bg) ((L s).drop k)))) ∧ ∃ m, m ≤ s.size ∧ (L s).drop m = trail (bg) ((L s).drop k) ∧ Rc w' b s m v ∧ w.grownBy w' (some b) := by
  have c1 := h.c1
  have hs' : s.size ≤ 140737488355328 := by omega
  go_enter Tryz.func122, Tryz.ntmps122
  go_wp2
  clear c1
  go_loopw [] (fun wr => ∃ m : Nat, Far (bg) s k m ∧ Rc wr b s m v ∧ w.grownBy wr (some b)) (fun wr => s.size - posOf wr b)
  case atStart => exact ⟨k, .start hk, h, World.grownBy.refl _ _⟩
  case round =>
    clear h
    obtain ⟨m, hf, h, hg⟩ := hrel
    have hm := hf.2.1
    have hkm := hf.1
    have c0 := h.c0; have c1 := h.c1; have f1 := h.f 1
    have hpos := h.pos
    by_cases hp : m < s.size
    · have hlt : decide ((m : Int) < s.size) = true := decide_eq_true (by omega)
      have hx : (s.extract m s.size).size ≤ 140737488351232 := Nat.le_trans (size_extract _ _ _) hs
      have hxl := L_end s m
      have i0 : (0 : Int) ≤ (m : Int) := by omega
      have i1 : (m : Int) ≤ (s.size : Int) := by omega
      cases hb : Tm.begun ((L s).drop m) with
      | zero =>
        have hf := hf.next hp (by unfold bg; rw [hb]; rfl)
        have H := Lib.hid h; have HF := Lib.hid hf; have HS := Lib.hid hb; have HP := Lib.hid hpos; have HG := Lib.hid hg; have HX := Lib.hid hxl; clear h hf hb hpos hg hxl
        go_wp2
        go_still_tail 20, (by kernel_rfl)
        change wpList _ _ _ _ _ wr.drew
        go_wp2_with fail
        refine (begun1 _ _ _ 0 (by omega) HX.out HS.out).mono ?_
        rintro e w2 ⟨rfl, hb2⟩
        obtain ⟨h2, hg2⟩ := rc_next (k := k) H.out HG.out hb2
        clear c0 c1 f1
        have c1 := h2.c1; have f1 := h2.f 1
        have H2 := Lib.hid h2; have HG2 := Lib.hid hg2; clear h2 hg2 hb2
        go_wp2
        go_roundw
        case rel => exact ⟨m + 1, HF.out, H2.out.set1 (m + 1), HG2.out.trans (g_set _ _ _ _)⟩
        case measure =>
          rw [show posOf (w2.setCell ⟨b, 1, none⟩ (.int .i64 (m + 1))) b = m + 1 from (H2.out.set1 (m + 1)).pos, HP.out]
          omega
      | succ n =>
        have hd := hf.done (.inl (by unfold bg; rw [hb]; rfl))
        have H := Lib.hid h; have HD := Lib.hid hd; have HS := Lib.hid hb; have HG := Lib.hid hg; have HX := Lib.hid hxl; clear h hf hb hpos hg hd hxl
        have hn0 : ((n + 1 : Nat) : Int) ≠ 0 := by omega
        have hn1 : (((n + 1 : Nat) : Int) == 0) = false := by simpa using hn0
        generalize hN : n + 1 = N at *
        go_wp2
        go_still_tail 20, (by kernel_rfl)
        change wpList _ _ _ _ _ wr.drew
        go_wp2_with fail
        refine (begun1 _ _ _ N (by omega) HX.out HS.out).mono ?_
        rintro e w2 ⟨rfl, hb2⟩
        obtain ⟨h2, hg2⟩ := rc_next (k := k) H.out HG.out hb2
        clear c0 c1 f1
        have c0 := h2.c0; have c1 := h2.c1
        have H2 := Lib.hid h2; have HG2 := Lib.hid hg2; clear h2 hg2 hb2
        go_wp2
        go_quiet (fail)
        go_wp2
        go_ret
        exact ⟨ret_str HD.out.1, m, hm, HD.out.2, H2.out, HG2.out.trans (g_dN _ _ _)⟩
    · have hlt : decide ((m : Int) < s.size) = false := decide_eq_false (by omega)
      have hd := hf.done (.inr hp)
      have H := Lib.hid h; have HD := Lib.hid hd; have HG := Lib.hid hg; clear h hf hpos hg hd
      go_wp2
      go_quiet (fail)
      go_wp2
      go_quiet (fail)
      go_wp2
      go_ret
      exact ⟨ret_str HD.out.1, m, hm, HD.out.2, H.out, (HG.out.trans (g_dN _ _ _)).trans (g_dN _ _ _)⟩

set_option maxRecDepth 100000 in
set_option maxHeartbeats 4000000 in
theorem upToEnd_any (b k : Nat) (s : ByteArray) (v : Value) (nm : ByteArray) (hnm : nm.size ≤ 140737488351232) (w : World) (h : Rc w b s k v) (hk : k ≤ s.size) (hs : s.size ≤ 140737488351232) :
    Calls Tryz.prog 172 #[rp b, .string nm] w fun e w' => e = .returned (.string (B (lead (isEnd (L nm)) ((L s).drop k)))) ∧ ∃ m, m ≤ s.size ∧ (L s).drop m = trail (isEnd (L nm)) ((L s).drop k) ∧ Rc w' b s m v ∧ w.grownBy w' (some b) := by
  have c1 := h.c1
  have hs' : s.size ≤ 140737488355328 := by omega
  go_enter Tryz.func172, Tryz.ntmps172
  go_wp2
  clear c1
  go_loopw [] (fun wr => ∃ m : Nat, Far (isEnd (L nm)) s k m ∧ Rc wr b s m v ∧ w.grownBy wr (some b)) (fun wr => s.size - posOf wr b)
  case atStart => exact ⟨k, .start hk, h, World.grownBy.refl _ _⟩
  case round =>
    clear h
    obtain ⟨m, hf, h, hg⟩ := hrel
    have hm := hf.2.1
    have hkm := hf.1
    have c0 := h.c0; have c1 := h.c1; have f1 := h.f 1
    have hpos := h.pos
    by_cases hp : m < s.size
    · have hlt : decide ((m : Int) < s.size) = true := decide_eq_true (by omega)
      have hx : (s.extract m s.size).size ≤ 140737488351232 := Nat.le_trans (size_extract _ _ _) hs
      have hxl := L_end s m
      have i0 : (0 : Int) ≤ (m : Int) := by omega
      have i1 : (m : Int) ≤ (s.size : Int) := by omega
      cases hb : isEnd (L nm) ((L s).drop m) with
      | false =>
        have hf := hf.next hp (hb)
        have H := Lib.hid h; have HF := Lib.hid hf; have HS := Lib.hid hb; have HP := Lib.hid hpos; have HG := Lib.hid hg; have HX := Lib.hid hxl; clear h hf hb hpos hg hxl
        go_wp2
        go_still_tail 21, (by kernel_rfl)
        change wpList _ _ _ _ _ wr.drew
        go_wp2_with fail
        refine (endTag1 _ _ _ _ false hx hnm HX.out HS.out).mono ?_
        rintro e w2 ⟨rfl, hb2⟩
        obtain ⟨h2, hg2⟩ := rc_next (k := k) H.out HG.out hb2
        clear c0 c1 f1
        have c1 := h2.c1; have f1 := h2.f 1
        have H2 := Lib.hid h2; have HG2 := Lib.hid hg2; clear h2 hg2 hb2
        go_wp2
        go_roundw
        case rel => exact ⟨m + 1, HF.out, H2.out.set1 (m + 1), HG2.out.trans (g_set _ _ _ _)⟩
        case measure =>
          rw [show posOf (w2.setCell ⟨b, 1, none⟩ (.int .i64 (m + 1))) b = m + 1 from (H2.out.set1 (m + 1)).pos, HP.out]
          omega
      | true =>
        have hd := hf.done (.inl (hb))
        have H := Lib.hid h; have HD := Lib.hid hd; have HS := Lib.hid hb; have HG := Lib.hid hg; have HX := Lib.hid hxl; clear h hf hb hpos hg hd hxl
        
        
        
        go_wp2
        go_still_tail 21, (by kernel_rfl)
        change wpList _ _ _ _ _ wr.drew
        go_wp2_with fail
        refine (endTag1 _ _ _ _ true hx hnm HX.out HS.out).mono ?_
        rintro e w2 ⟨rfl, hb2⟩
        obtain ⟨h2, hg2⟩ := rc_next (k := k) H.out HG.out hb2
        clear c0 c1 f1
        have c0 := h2.c0; have c1 := h2.c1
        have H2 := Lib.hid h2; have HG2 := Lib.hid hg2; clear h2 hg2 hb2
        go_wp2
        go_quiet (fail)
        go_wp2
        go_ret
        exact ⟨ret_str HD.out.1, m, hm, HD.out.2, H2.out, HG2.out.trans (g_dN _ _ _)⟩
    · have hlt : decide ((m : Int) < s.size) = false := decide_eq_false (by omega)
      have hd := hf.done (.inr hp)
      have H := Lib.hid h; have HD := Lib.hid hd; have HG := Lib.hid hg; clear h hf hpos hg hd
      go_wp2
      go_quiet (fail)
      go_wp2
      go_quiet (fail)
      go_wp2
      go_ret
      exact ⟨ret_str HD.out.1, m, hm, HD.out.2, H.out, (HG.out.trans (g_dN _ _ _)).trans (g_dN _ _ _)⟩

end Go.Proofs.YtgjlfcamgkeibaaGreatDoor.To

namespace Go.Proofs.YtgjlfcamgkeibaaGreatDoor.Fo
set_option maxRecDepth 100000
set_option linter.unusedSimpArgs false
set_option linter.unusedVariables false
open Go.RowKit Ba Fm
theorem has_snoc (l : List ByteArray) (s : ByteArray) (k : Nat) (h : k < l.length) (hn : ¬ s ∈ l.take k) (he : l[k] ≠ s) : ¬ s ∈ l.take (k + 1) := by
  rw [List.take_succ_eq_append_getElem h, List.mem_append]
  rintro (h' | h')
  · exact hn h'
  · exact he (List.mem_singleton.1 h').symm

end Go.Proofs.YtgjlfcamgkeibaaGreatDoor.Fo

namespace Go.Proofs.YtgjlfcamgkeibaaGreatDoor.Na
set_option maxRecDepth 100000
set_option linter.unusedSimpArgs false
set_option linter.unusedVariables false
open Go.RowKit Ba Fm Fo Nm
set_option maxHeartbeats 400000 in
theorem among_any (A : Option Addr) (c N : Nat) (l : List ByteArray) (s : ByteArray) (w : World) (hr : Rd w N A l) (hl : l.length ≤ 8796093022208) :
    Calls Tryz.prog 127 #[.string s, .slice A l.length c] w fun e w' => e = .returned (.bool (isIn s l)) ∧ w = w' := by
  go_enter Tryz.func127, Tryz.ntmps127
  go_wp2
  go_loop [9] (fun i => ∃ k : Nat, i = .int .i64 k ∧ k ≤ l.length ∧ ¬ s ∈ l.take k) (fun i => l.length - (intOf i).toNat)
  case atStart => exact ⟨0, rfl, Nat.zero_le _, by simp⟩
  case round =>
    obtain ⟨k, rfl, hks, hn⟩ := hrel
    have HN := Lib.hid hn; clear hn
    by_cases hp : k < l.length
    · obtain ⟨b, off, rfl, _, hc⟩ := hr (by omega)
      have hcell := hc k hp
      clear hc hr
      have heq := eq_of_toList (a := l[k]) (b := s)
      by_cases he : l[k] = s
      · rw [decide_eq_true he] at heq
        have HE := Lib.hid he; clear he
        go_wp2
        go_ret
        exact ⟨ret_bool (isIn_yes (by have := HE.out; rw [← this]; exact List.getElem_mem _)).symm, rfl⟩
      · rw [decide_eq_false he] at heq
        have HE := Lib.hid he; clear he
        go_wp2
        go_round
        case rel => exact ⟨k + 1, by go_num, by omega, has_snoc l s k hp HN.out HE.out⟩
        case measure => simp [intOf]; omega
    · go_wp2
      go_ret
      refine ⟨ret_bool (isIn_no ?_).symm, rfl⟩
      have := HN.out
      rwa [List.take_of_length_le (by omega)] at this

theorem amongLit (w : World) (l : List ByteArray) (s : ByteArray) (hl : l.length ≤ 1000) :
    Calls Tryz.prog 127 #[.string s, .slice (some ⟨w.heap.size, 0, none⟩) l.length l.length] (w.alloc (.cells (l.map sc).toArray 9)) fun e w' => e = .returned (.bool (isIn s l)) ∧ w.alloc (.cells (l.map sc).toArray 9) = w' :=
  among_any _ _ _ l s _ (sv_lit w l).rd (by omega)
theorem sown_lit (w : World) (l : List ByteArray) (hl : l.length ≤ 1000) : Sown w.heap.size (w.alloc (.cells (l.map sc).toArray 9)) (.slice (some ⟨w.heap.size, 0, none⟩) l.length l.length) l :=
  World.ownsRow_lit w (l.map sc).toArray l.length (Nat.le_refl _) (by unfold maxLen; omega) (by simp)

theorem raw_lit (w : World) (s : ByteArray) :
    Calls Tryz.prog 127 #[.string s, .slice (some ⟨w.heap.size, 0, none⟩) 6 6] (w.alloc (.cells #[.string ⟨#[105, 102, 114, 97, 109, 101]⟩, .string ⟨#[110, 111, 101, 109, 98, 101, 100]⟩, .string ⟨#[110, 111, 102, 114, 97, 109, 101, 115]⟩, .string ⟨#[115, 99, 114, 105, 112, 116]⟩, .string ⟨#[115, 116, 121, 108, 101]⟩, .string ⟨#[120, 109, 112]⟩] 9)) fun e w' => e = .returned (.bool (isIn s rawL)) ∧ w.alloc (.cells #[.string ⟨#[105, 102, 114, 97, 109, 101]⟩, .string ⟨#[110, 111, 101, 109, 98, 101, 100]⟩, .string ⟨#[110, 111, 102, 114, 97, 109, 101, 115]⟩, .string ⟨#[115, 99, 114, 105, 112, 116]⟩, .string ⟨#[115, 116, 121, 108, 101]⟩, .string ⟨#[120, 109, 112]⟩] 9) = w' := amongLit w rawL s (by decide)
set_option maxHeartbeats 1000000 in
theorem raw_any (s : ByteArray) (w : World) : Calls Tryz.prog 79 #[.string s] w fun e w' => e = .returned (.bool (isIn s rawL)) ∧ Below w.heap.size w w' := by
  go_enter Tryz.func79, Tryz.ntmps79
  go_wp2_with fail
  refine (raw_lit w s).mono ?_
  rintro e w1 ⟨rfl, rfl⟩
  go_wp2
  go_ret
  exact ⟨rfl, below_one w _⟩
theorem soft_lit (w : World) (s : ByteArray) :
    Calls Tryz.prog 127 #[.string s, .slice (some ⟨w.heap.size, 0, none⟩) 2 2] (w.alloc (.cells #[.string ⟨#[116, 101, 120, 116, 97, 114, 101, 97]⟩, .string ⟨#[116, 105, 116, 108, 101]⟩] 9)) fun e w' => e = .returned (.bool (isIn s softL)) ∧ w.alloc (.cells #[.string ⟨#[116, 101, 120, 116, 97, 114, 101, 97]⟩, .string ⟨#[116, 105, 116, 108, 101]⟩] 9) = w' := amongLit w softL s (by decide)
set_option maxHeartbeats 1000000 in
theorem soft_any (s : ByteArray) (w : World) : Calls Tryz.prog 173 #[.string s] w fun e w' => e = .returned (.bool (isIn s softL)) ∧ Below w.heap.size w w' := by
  go_enter Tryz.func173, Tryz.ntmps173
  go_wp2_with fail
  refine (soft_lit w s).mono ?_
  rintro e w1 ⟨rfl, rfl⟩
  go_wp2
  go_ret
  exact ⟨rfl, below_one w _⟩
end Go.Proofs.YtgjlfcamgkeibaaGreatDoor.Na

namespace Go.Proofs.YtgjlfcamgkeibaaGreatDoor.To
set_option maxRecDepth 100000
set_option linter.unusedSimpArgs false
set_option linter.unusedVariables false
open Go.RowKit Ba Fm Fo Tm
open Ro (At acells len_acells below_new Sh Ra acells_one info_attr)
open Re (Tab)
theorem app_tok2 {ops : Array Oper} {rest : List Oper} {o : Oper} {a : Act} {Q : Exit → Act → World → Prop} (w : World) (hgd : o.guard = none) (s x : Operand)
    (ho : o.op = .call { callee := .builtin .append, args := #[s, x], argTypes := #[84, 84] })
    (N : Nat) (v : Value) (l : List Tw) (y : Tw) (hs : a.eval s = v) (hown : Ow N w v l) (hy : Att w w.heap.size y) (hap : Ap w N y) (g : Nat) (hgz : g = w.heap.size) (hx : a.eval x = .slice (some ⟨g, 0, none⟩) 1 1)
    (hl : l.length ≤ 4000000000) (hN : N ≤ w.heap.size)
    (h : ∀ v' w', Ow N w' v' (l ++ [y]) → (∀ w0, Below N w0 w → Below N w0 w') → (∀ z, Fr N w z → Fr N w' z) → w.grownBy w' v.ownBlock → wpList Tryz.prog ops Q rest (a.put o.dst v') w') :
    wpList Tryz.prog ops Q (o :: rest) a (w.alloc (tokO y)) := by
  subst hgz
  obtain ⟨i0, hi, hz0, hz1, hz2⟩ := info_parts info_tok
  have hown' : Ow N (w.alloc (tokO y)) v l := hown.alloc _
  have hsz : (w.alloc (tokO y)).heap.size = w.heap.size + 1 := by simp
  refine wpList_append_own _ hgd s x 84 ho N 104 i0 _ 5 72 Tryz.underlying84 hi hz0 hz1 hz2 rfl (by decide) v l.length (l.flatMap cells) hs hown'.1 ⟨w.heap.size, 0, none⟩ 1 1 (cells y) hx rfl (tok_cells_new w y) (cells_one y) (by unfold maxLen; omega) (by omega) (by omega) ?_
  intro v' w' ho2 hg2 _
  have hk : ∀ w0, Below N w0 w → Below N w0 w' := fun w0 hb => (hb.alloc hN _).grown hg2 (by omega) fun k hk => (World.ownsRow.lt hown'.1 k hk).1
  refine h v' w' ⟨?_, ?_⟩ hk (fun z hz => (hz.below (below_new w (tokO y))).grown hown'.1 hg2) ((World.grownBy_alloc w _ _).trans hg2)
  · rw [List.length_append, List.flatMap_append]
    simpa using ho2
  · intro z hz
    rcases List.mem_append.1 hz with hz | hz
    · exact ⟨(hown'.2 z hz).1.grown hown'.1 hg2 (hown'.2 z hz).2, (hown'.2 z hz).2.grown hown'.1 hg2⟩
    · obtain rfl := List.mem_singleton.1 hz
      have h1 : Att (w.alloc (tokO z)) (w.alloc (tokO z)).heap.size z := hy.boxed (Below.refl _ _) (tokO z)
      have h2 := hap.below (below_new w (tokO z))
      exact ⟨h1.grown hown'.1 hg2 h2, h2.grown hown'.1 hg2⟩

def Ot (N : Nat) (w : World) (v : Value) (l : List Tw) : Prop := w.ownsRow N 104 5 v l.length (l.flatMap cells) ∧ ∀ x ∈ l, Fr N w x
theorem Ot.ow {N : Nat} {w : World} {v : Value} {l : List Tw} (h : Ot N w v l) : Ow N w v l := ⟨h.1, fun x hx => ⟨(h.2 x hx).att, (h.2 x hx).ap⟩⟩
theorem Ot.nil (N : Nat) (w : World) : Ot N w (.slice none 0 0) [] := ⟨World.ownsRow_nil w N _ 5, fun _ h => by simp at h⟩
theorem Fr.ne {N b : Nat} {w : World} {x : Tw} (h : Fr N w x) {cs : Array Value} {t : TypeId} {fr : Nat × Nat} (hb : w.heap[b]? = some (.cells cs t fr)) (ht : t ≠ 51) : (Value.slice x.A x.tk.attrs.length x.c).ownBlock ≠ some b := by
  rcases h.1.2 with ⟨hv, _⟩ | ⟨g, cap, cur, hv, _, hh, _⟩
  · rw [hv]; simp [Value.ownBlock]
  · rw [hv]
    intro e
    have e : g = b := by simpa [Value.ownBlock] using e
    subst e
    rw [hb] at hh
    injection hh with hh
    injection hh with _ h2
    exact ht h2
theorem Ot.ne {N b : Nat} {w : World} {v : Value} {l : List Tw} (h : Ot N w v l) {cs : Array Value} {t : TypeId} {fr : Nat × Nat} (hb : w.heap[b]? = some (.cells cs t fr)) (ht : t ≠ 104) : v.ownBlock ≠ some b := by
  rcases h.1.2 with ⟨rfl, _⟩ | ⟨g, cap, cur, rfl, _, hh, _⟩
  · simp [Value.ownBlock]
  · intro e
    have e : g = b := by simpa [Value.ownBlock] using e
    subst e
    rw [hb] at hh
    injection hh with hh
    injection hh with _ h2
    exact ht h2
theorem Ot.kept {N b : Nat} {w w' : World} {v : Value} {l : List Tw} (h : Ot N w v l) (hg : w.grownBy w' (some b)) {cs : Array Value} {t : TypeId} {fr : Nat × Nat} (hb : w.heap[b]? = some (.cells cs t fr)) (h1 : t ≠ 104) (h2 : t ≠ 51) : Ot N w' v l :=
  ⟨World.ownsRow.kept h.1 hg (.inr (h.ne hb h1)), fun x hx => ⟨World.ownsRow.kept (h.2 x hx).1 hg (.inr ((h.2 x hx).ne hb h2)), (h.2 x hx).2⟩⟩
theorem Ot.below {N : Nat} {w w' : World} {v : Value} {l : List Tw} (h : Ot N w v l) (hb : Below w.heap.size w w') : Ot N w' v l := ⟨(h.ow.below hb).1, fun x hx => (h.2 x hx).below hb⟩
theorem Ot.form {N : Nat} {w : World} {v : Value} {l : List Tw} (h : Ot N w v l) : ∃ A c, v = .slice A l.length c ∧ l.length ≤ c ∧ c ≤ maxLen ∧ (A = none → c = 0) ∧ Rr w w.heap.size A l := h.ow.form
theorem fr_none (N : Nat) (w : World) (t : Tk) (ht : t.attrs = []) : Fr N w ⟨t, none, 0⟩ := by
  refine ⟨?_, fun a ha => ?_⟩
  · show w.ownsRow N 51 2 (.slice none t.attrs.length 0) t.attrs.length (t.attrs.flatMap acells)
    rw [ht]
    exact World.ownsRow_nil w N _ 2
  · have : a ∈ t.attrs := ha
    rw [ht] at this
    cases this

def Rg (N : Nat) (w : World) (b : Nat) (s : ByteArray) (k : Nat) (l : List Tw) : Prop := ∃ V, Rc w b s k V ∧ Ot N w V l ∧ N ≤ b
theorem Rg.step {N : Nat} {w w' : World} {b k m : Nat} {s : ByteArray} {V : Value} {l : List Tw} (h : Rc w b s k V) (ho : Ot N w V l) (hN : N ≤ b) (hg : w.grownBy w' (some b)) (h' : Rc w' b s m V) : Rg N w' b s m l ∧ ∀ w0, Below N w0 w → Below N w0 w' :=
  ⟨⟨V, h', ho.kept hg h (by decide) (by decide), hN⟩, fun w0 hb => hb.grown hg (by have := h.lt; omega) (fun j hj => by injection hj with hj; omega)⟩

theorem Rg.add {N : Nat} {w w' : World} {b k : Nat} {s : ByteArray} {V v' : Value} {l : List Tw} {y : Tw} (h : Rc w b s k V) (ho : Ot N w V l) (hN : N ≤ b) (hy : Fr N w y)
    (hw : Ow N w' v' (l ++ [y])) (hb : ∀ w0, Below N w0 w → Below N w0 w') (hf : ∀ z, Fr N w z → Fr N w' z) (hg : w.grownBy w' V.ownBlock) :
    Rg N (w'.setCell ⟨b, 2, none⟩ v') b s k (l ++ [y]) ∧ ∀ w0, Below N w0 w → Below N w0 (w'.setCell ⟨b, 2, none⟩ v') := by
  have hrc : Rc w' b s k V := (hg.block b h.lt (fun e => ho.ne h (by decide) e.symm)).trans h
  have ht : Ot N w' v' (l ++ [y]) := ⟨hw.1, fun x hx => by
    rcases List.mem_append.1 hx with hx | hx
    · exact hf x (ho.2 x hx)
    · rw [List.mem_singleton.1 hx]; exact hf y hy⟩
  refine ⟨⟨v', hrc.set2 v', ht.kept (g_set w' b 2 v') hrc (by decide) (by decide), hN⟩, fun w0 h0 => (hb w0 h0).setCell hN _⟩

theorem L_ne {d : ByteArray} (h : 0 < d.size) : L d ≠ [] := fun e => by rw [← size_L, e] at h; exact absurd h (by decide)
theorem form1 {N : Nat} {w : World} {v : Value} {l : List Tw} {y : Tw} (h : Ow N w v (l ++ [y])) : ∃ A c, v = .slice A (l.length + 1) c := by
  obtain ⟨A, c, e, _⟩ := h.form
  exact ⟨A, c, by rw [e, List.length_append]; rfl⟩
theorem rc_over {N : Nat} {w w' : World} {b k : Nat} {s : ByteArray} {V : Value} {l : List Tw} (h : Rc w b s k V) (ho : Ot N w V l) (hg : w.grownBy w' V.ownBlock) : Rc w' b s k V := (hg.block b h.lt (fun e => ho.ne h (by decide) e.symm)).trans h
set_option maxRecDepth 100000 in
set_option maxHeartbeats 1000000 in
theorem addText_any (N b k : Nat) (s d : ByteArray) (l : List Tw) (w : World) (h : Rg N w b s k l) (hl : l.length ≤ 4000000000) :
    Calls Tryz.prog 120 #[rp b, .string d] w fun e w' => e = .returned (.tuple #[]) ∧ ∃ l', Rg N w' b s k l' ∧ tks l' = tks l ++ txt (L d) ∧ ∀ w0, Below N w0 w → Below N w0 w' := by
  obtain ⟨V, hr, ho, hN⟩ := h
  by_cases hp : 0 < d.size
  · have hd := L_ne hp
    have he : d.toList.isEmpty = false := by rw [toList_L]; simpa using hd
    have c2 := hr.c2; have f2 := hr.f 2
    have hz := hr.lt
    have hZ : N ≤ w.heap.size := by omega
    have hfr : Fr N w ⟨⟨0, ⟨#[]⟩, d, [], false⟩, none, 0⟩ := fr_none N w _ rfl
    have HR := Lib.hid hr; have HO := Lib.hid ho; have HF := Lib.hid hfr; have HD := Lib.hid hd
    clear hr ho hfr hd
    go_enter Tryz.func120, Tryz.ntmps120
    go_wp2_with (at_builtin; refine app_tok2 w rfl (.tmp 10) (.tmp 13) rfl N V l ⟨⟨0, ⟨#[]⟩, d, [], false⟩, none, 0⟩ rfl HO.out.ow HF.out.att HF.out.ap w.heap.size rfl rfl hl hZ ?_; intro v4 w4 how hk hf hg; obtain ⟨A4, cc4, rfl⟩ := form1 how; have hrc4 := rc_over HR.out HO.out hg; have c4 := hrc4.c2; have f4 := hrc4.f 2; have HK := Lib.hid hk; have HFF := Lib.hid hf; have HG := Lib.hid hg; have HOW := Lib.hid how; clear hk hf hg how hrc4 c2 f2)
    go_end0
    obtain ⟨r1, r2⟩ := Rg.add HR.out HO.out hN HF.out HOW.out HK.out HFF.out HG.out
    refine ⟨rfl, _, r1, ?_, r2⟩
    rw [tks_append]
    unfold txt
    rw [if_neg HD.out]
    show _ = _ ++ [(⟨0, B [], B (L d), [], false⟩ : Tk)]
    rw [B_L]
    rfl
  · have hd := isEmpty_L hp
    have he : d.toList.isEmpty = true := by rw [toList_L, hd]; rfl
    have hD : txt (L d) = [] := by unfold txt; rw [if_pos hd]
    have HR := Lib.hid hr; have HO := Lib.hid ho; have HD := Lib.hid hD
    clear hr ho hD hd
    go_enter Tryz.func120, Tryz.ntmps120
    go_wp2
    go_end0
    exact ⟨rfl, l, ⟨V, HR.out, HO.out, hN⟩, by rw [HD.out, List.append_nil], fun _ h => h⟩

end Go.Proofs.YtgjlfcamgkeibaaGreatDoor.To

namespace Go.Proofs.YtgjlfcamgkeibaaGreatDoor.To
set_option maxRecDepth 100000
set_option linter.unusedSimpArgs false
set_option linter.unusedVariables false
open Go.RowKit Ba Fm Fo Tm
open Ro (At acells len_acells below_new Sh Ra acells_one info_attr)
theorem pre_len {t l : List UInt8} (h : pre t l = true) : t.length ≤ l.length := by
  have h := of_decide_eq_true h
  have := congrArg List.length h
  rw [List.length_take] at this
  omega
theorem cend_no {l : List UInt8} (h : cend l = false) : pre [45, 45, 62] l = false ∧ pre [45, 45, 33, 62] l = false := by
  unfold cend at h
  exact Bool.or_eq_false_iff.1 h
theorem comm_gt {l : List UInt8} (h : pre [62] l = true) : comm l = ([], l.drop 1) := by unfold comm; rw [if_pos h]
theorem comm_dash {l : List UInt8} (h : pre [62] l = false) (h' : pre [45, 62] l = true) : comm l = ([], l.drop 2) := by unfold comm; rw [if_neg (by rw [h]; simp), if_pos h']
theorem comm_on {l : List UInt8} (h : pre [62] l = false) (h' : pre [45, 62] l = false) : comm l = (lead cend l, (trail cend l).drop (if pre [45, 45, 62] (trail cend l) = true then 3 else 4)) := by unfold comm; rw [if_neg (by rw [h]; simp), if_neg (by rw [h']; simp)]

set_option maxRecDepth 100000 in
set_option maxHeartbeats 4000000 in
theorem commentOf_any (s : ByteArray) (w : World) (hs : s.size ≤ 140737488351232) :
    Calls Tryz.prog 219 #[.string s] w fun e w' => ∃ n : Nat, e = .returned (.tuple #[.string (B (comm (L s)).1), .int .i64 n]) ∧ n ≤ s.size ∧ (L s).drop n = (comm (L s)).2 ∧ Below w.heap.size w w' := by
  have hs' : s.size ≤ 140737488355328 := by omega
  cases h1 : pre [62] (L s) with
  | true =>
    have hc := comm_gt h1
    have hl := pre_len h1
    rw [size_L] at hl
    have H1 := Lib.hid h1; have HC := Lib.hid hc; clear h1 hc
    go_enter Tryz.func219, Tryz.ntmps219
    go_wp2
    refine wp_loop_rounds 1 ?_
    rw [rounds_succ]
    go_wp2_with (go_at_call 237; refine (starts1 s _ _ [62] true hs' (by decide) rfl H1.out).mono ?_; rintro e w' ⟨rfl, rfl⟩)
    go_ret2
    refine ⟨1, ⟨?_, hl, ?_, ?_⟩⟩
    · rw [HC.out]; rfl
    · rw [HC.out]
    · exact below_new w _
  | false =>
  cases h2 : pre [45, 62] (L s) with
  | true =>
    have hc := comm_dash h1 h2
    have hl := pre_len h2
    rw [size_L] at hl
    have H1 := Lib.hid h1; have H2 := Lib.hid h2; have HC := Lib.hid hc; clear h1 h2 hc
    go_enter Tryz.func219, Tryz.ntmps219
    go_wp2
    refine wp_loop_rounds 2 ?_
    rw [rounds_succ]
    go_wp2_with (go_at_call 237; refine (starts1 s _ _ [62] false hs' (by decide) rfl H1.out).mono ?_; rintro e w' ⟨rfl, rfl⟩)
    rw [rounds_succ]
    go_wp2_with (go_at_call 237; refine (starts1 s _ _ [45, 62] true hs' (by decide) rfl H2.out).mono ?_; rintro e w' ⟨rfl, rfl⟩)
    go_ret2
    refine ⟨2, ⟨?_, hl, ?_, ?_⟩⟩
    · rw [HC.out]; rfl
    · rw [HC.out]
    · exact below_new w _
  | false =>
    have hc := comm_on h1 h2
    have H1 := Lib.hid h1; have H2 := Lib.hid h2; have HC := Lib.hid hc; clear h1 h2 hc
    go_enter Tryz.func219, Tryz.ntmps219
    go_wp2
    refine wp_loop_rounds 3 ?_
    rw [rounds_succ]
    go_wp2_with (go_at_call 237; refine (starts1 s _ _ [62] false hs' (by decide) rfl H1.out).mono ?_; rintro e w' ⟨rfl, rfl⟩)
    rw [rounds_succ]
    go_wp2_with (go_at_call 237; refine (starts1 s _ _ [45, 62] false hs' (by decide) rfl H2.out).mono ?_; rintro e w' ⟨rfl, rfl⟩)
    rw [rounds_succ]
    go_wp2
    go_loopw [23] (fun i wr => ∃ k : Nat, i = .int .i64 k ∧ Far cend s 0 k ∧ Below w.heap.size w wr) (fun i _ => s.size - (intOf i).toNat)
    case atStart => exact ⟨0, rfl, .start (Nat.zero_le _), below_new w _⟩
    case round =>
      obtain ⟨k, rfl, hf, hb⟩ := hrel
      have hks := hf.2.1
      by_cases hp : k < s.size
      · have hx : (s.extract k s.size).size ≤ 140737488355328 := Nat.le_trans (size_extract _ _ _) hs'
        have hxl := L_end s k
        have i0 : (0 : Int) ≤ (k : Int) := by omega
        have i1 : (k : Int) ≤ (s.size : Int) := by omega
        cases ha : pre [45, 45, 62] ((L s).drop k) with
        | true =>
          have hd := hf.done (.inl (by unfold cend; rw [ha]; rfl))
          have hl := pre_len ha
          rw [List.length_drop, size_L] at hl
          have HA := Lib.hid ha; have HD := Lib.hid hd; have HX := Lib.hid hxl; have HL := Lib.hid hl; have HB := Lib.hid hb; clear hf hb hxl ha hd hl
          go_wp2
          refine wp_loop_rounds 1 ?_
          rw [rounds_succ]
          go_wp2_with (go_at_call 237; refine (starts1 _ _ _ [45, 45, 62] true hx (by decide) rfl (by rw [HX.out]; exact HA.out)).mono ?_; rintro e w' ⟨rfl, rfl⟩)
          go_ret2
          have h3 := HL.out
          refine ⟨k + 3, ?_, by simp at h3; omega, ?_, ?_⟩
          · rw [HC.out, HD.out.1, List.drop_zero]; rfl
          · rw [HC.out]
            show _ = (trail cend (L s)).drop _
            have e := HD.out.2
            rw [List.drop_zero] at e
            rw [← e, if_pos HA.out, List.drop_drop]
          · exact bt HB.out (below_new _ _)
        | false =>
        cases hq : pre [45, 45, 33, 62] ((L s).drop k) with
        | true =>
          have hd := hf.done (.inl (by unfold cend; rw [hq, Bool.or_true]))
          have hl := pre_len hq
          rw [List.length_drop, size_L] at hl
          have HA := Lib.hid ha; have HQ := Lib.hid hq; have HD := Lib.hid hd; have HX := Lib.hid hxl; have HL := Lib.hid hl; have HB := Lib.hid hb; clear hf hb hxl ha hd hl hq
          go_wp2
          refine wp_loop_rounds 2 ?_
          rw [rounds_succ]
          go_wp2_with (go_at_call 237; refine (starts1 _ _ _ [45, 45, 62] false hx (by decide) rfl (by rw [HX.out]; exact HA.out)).mono ?_; rintro e w' ⟨rfl, rfl⟩)
          rw [rounds_succ]
          go_wp2_with (go_at_call 237; refine (starts1 _ _ _ [45, 45, 33, 62] true hx (by decide) rfl (by rw [HX.out]; exact HQ.out)).mono ?_; rintro e w' ⟨rfl, rfl⟩)
          go_ret2
          have h3 := HL.out
          refine ⟨k + 4, ?_, by simp at h3; omega, ?_, ?_⟩
          · rw [HC.out, HD.out.1, List.drop_zero]; rfl
          · rw [HC.out]
            show _ = (trail cend (L s)).drop _
            have e := HD.out.2
            rw [List.drop_zero] at e
            rw [← e, if_neg (by rw [HA.out]; simp), List.drop_drop]
          · exact bt HB.out (below_new _ _)
        | false =>
          have hf := hf.next hp (by unfold cend; rw [ha, hq]; rfl)
          have HA := Lib.hid ha; have HQ := Lib.hid hq; have HX := Lib.hid hxl; have HB := Lib.hid hb; have HF := Lib.hid hf; clear hf hb hxl ha hq
          go_wp2
          refine wp_loop_rounds 3 ?_
          rw [rounds_succ]
          go_wp2_with (go_at_call 237; refine (starts1 _ _ _ [45, 45, 62] false hx (by decide) rfl (by rw [HX.out]; exact HA.out)).mono ?_; rintro e w' ⟨rfl, rfl⟩)
          rw [rounds_succ]
          go_wp2_with (go_at_call 237; refine (starts1 _ _ _ [45, 45, 33, 62] false hx (by decide) rfl (by rw [HX.out]; exact HQ.out)).mono ?_; rintro e w' ⟨rfl, rfl⟩)
          rw [rounds_succ]
          go_wp2
          go_roundw
          case rel => exact ⟨k + 1, by go_num, HF.out, bt HB.out (below_new _ _)⟩
          case measure => simp [intOf]; omega
      · have hd := hf.done (.inr hp)
        have hn : (L s).drop k = [] := drop_nil s k hp
        have HD := Lib.hid hd; have HN := Lib.hid hn; have HB := Lib.hid hb; clear hf hb hd hn
        go_wp2
        go_ret2
        have e := HD.out.2
        rw [List.drop_zero, HN.out] at e
        have e2 := lead_trail cend (L s)
        rw [← e, List.append_nil] at e2
        refine ⟨s.size, ?_, Nat.le_refl _, ?_, HB.out⟩
        · rw [HC.out]
          show Ending.returned (.tuple #[.string s, .int .i64 s.size]) = Ending.returned (.tuple #[.string (B (lead cend (L s))), .int .i64 s.size])
          rw [e2, B_L]
        · rw [HC.out]
          show _ = (trail cend (L s)).drop _
          rw [← e, drop_nil s s.size (by omega)]
          rfl

end Go.Proofs.YtgjlfcamgkeibaaGreatDoor.To

namespace Go.Proofs.YtgjlfcamgkeibaaGreatDoor.To
set_option maxRecDepth 100000
set_option linter.unusedSimpArgs false
set_option linter.unusedVariables false
open Go.RowKit Ba Fm Fo Tm Nm
open Ro (At acells len_acells below_new Sh Ra acells_one info_attr)
open Re (Tab)
open Rm (dec)
theorem Rg.below {N : Nat} {w w' : World} {b k : Nat} {s : ByteArray} {l : List Tw} (h : Rg N w b s k l) (hb : Below w.heap.size w w') : Rg N w' b s k l ∧ Below N w w' := by
  obtain ⟨V, hr, ho, hN⟩ := h
  exact ⟨⟨V, hr.below hb, ho.below hb, hN⟩, hb.mono (by have := hr.lt; omega)⟩
theorem tab_below {N : Nat} {w w' : World} (h : Tab w) (hb : Below N w w') (hN : 0 < N) : Tab w' := by
  refine ⟨fun j v hv => ?_, Nat.lt_of_lt_of_le h.2 hb.size⟩
  rw [hb.cell (p := ⟨0, 0 + j, none⟩) hN]
  exact h.1 j v hv
def past (q : UInt8) (l : List UInt8) : List UInt8 := if hd q l = true then l.drop 1 else l
theorem past_gt (l : List UInt8) : past 62 (from_ gt l) = (closed l).2 := from_drop (q := 62) (l := l)
theorem Rg.n {N : Nat} {w : World} {b k : Nat} {s : ByteArray} {l : List Tw} (h : Rg N w b s k l) : N ≤ b := h.choose_spec.2.2

set_option maxRecDepth 100000 in
set_option maxHeartbeats 2000000 in
theorem addClosed_any (N b k : Nat) (kd : Int) (s d : ByteArray) (l : List Tw) (w : World) (h : Rg N w b s k l) (hk : k ≤ s.size) (hs : s.size ≤ 140737488351232) (hl : l.length ≤ 4000000000) :
    Calls Tryz.prog 178 #[rp b, .int .i64 kd, .string d] w fun e w' => e = .returned (.tuple #[]) ∧ ∃ m l', m ≤ s.size ∧ (L s).drop m = past 62 ((L s).drop k) ∧ Rg N w' b s m l' ∧ tks l' = tks l ++ [⟨kd, B [], d, [], false⟩] ∧ Below N w w' := by
  obtain ⟨V, hr, ho, hN⟩ := h
  have c2 := hr.c2; have f2 := hr.f 2
  have hz := hr.lt
  have hZ : N ≤ w.heap.size := by omega
  have hfr : Fr N w ⟨⟨kd, ⟨#[]⟩, d, [], false⟩, none, 0⟩ := fr_none N w _ rfl
  have HR := Lib.hid hr; have HO := Lib.hid ho; have HF := Lib.hid hfr
  clear hr ho hfr
  go_enter Tryz.func178, Tryz.ntmps178
  go_wp2_with (at_builtin; refine app_tok2 w rfl (.tmp 10) (.tmp 14) rfl N V l ⟨⟨kd, ⟨#[]⟩, d, [], false⟩, none, 0⟩ rfl HO.out.ow HF.out.att HF.out.ap w.heap.size rfl rfl hl hZ ?_; intro v4 w4 how hk hf hg; obtain ⟨A4, cc4, rfl⟩ := form1 how; have hrc4 := rc_over HR.out HO.out hg; have c4 := hrc4.c2; have f4 := hrc4.f 2; have HK := Lib.hid hk; have HFF := Lib.hid hf; have HG := Lib.hid hg; have HOW := Lib.hid how; clear hk hf hg how hrc4 c2 f2)
  obtain ⟨r1, r2⟩ := Rg.add HR.out HO.out hN HF.out HOW.out HK.out HFF.out HG.out
  obtain ⟨V5, hr5, ho5, _⟩ := r1
  obtain ⟨q, hq⟩ : ∃ q, hd 62 ((L s).drop k) = q := ⟨_, rfl⟩
  have hdr := hd_drop (by assumption) hq
  have HD := Lib.hid hdr
  have HQ := Lib.hid hq
  clear hdr hq c4 f4
  refine (pass1 b k s V5 62 _ q _ hr5 (by assumption) (by omega) rfl HQ.out).mono ?_
  rintro e w6 ⟨rfl, h6, hg6⟩
  go_wp2
  go_end0
  obtain ⟨r3, r4⟩ := Rg.step hr5 ho5 hN hg6 h6
  refine ⟨rfl, k + q.toNat, _, HD.out.1, ?_, r3, ?_, r4 _ (r2 _ (Below.refl _ _))⟩
  · unfold past; rw [HQ.out]; exact HD.out.2
  · rw [tks_append]; rfl

set_option maxRecDepth 100000 in
set_option maxHeartbeats 2000000 in
theorem comment_any (N b k : Nat) (s : ByteArray) (l : List Tw) (w : World) (h : Rg N w b s k l) (hk : k ≤ s.size) (hs : s.size ≤ 140737488351232) (hl : l.length ≤ 4000000000) :
    Calls Tryz.prog 177 #[rp b] w fun e w' => e = .returned (.tuple #[]) ∧ ∃ m l', m ≤ s.size ∧ (L s).drop m = (comm ((L s).drop k)).2 ∧ Rg N w' b s m l' ∧ tks l' = tks l ++ [⟨3, B [], B (comm ((L s).drop k)).1, [], false⟩] ∧ Below N w w' := by
  obtain ⟨V, hr, ho, hN⟩ := h
  have c0 := hr.c0; have c1 := hr.c1
  have hz := hr.lt
  have hZ : N ≤ w.heap.size := by omega
  have hx : (s.extract k s.size).size ≤ 140737488351232 := Nat.le_trans (size_extract _ _ _) hs
  have hxl := L_end s k
  have hxs : (s.extract k s.size).size = s.size - k := by rw [← size_L, hxl, List.length_drop, size_L]
  have i0 : (0 : Int) ≤ (k : Int) := by omega
  have i1 : (k : Int) ≤ (s.size : Int) := by omega
  have HR := Lib.hid hr; have HO := Lib.hid ho; have HX := Lib.hid hxl; have HXS := Lib.hid hxs
  clear hr ho hxl hxs
  go_enter Tryz.func177, Tryz.ntmps177
  go_upto_region 0 with (fail)
  obtain ⟨C, hC⟩ : ∃ C, comm ((L s).drop k) = C := ⟨_, rfl⟩
  go_cut [2, 3] from 4 to 16 (fun s2 s3 wx => ∃ n : Nat, s2 = .string (B C.1) ∧ s3 = .int .i64 n ∧ k + n ≤ s.size ∧ (L s).drop (k + n) = C.2 ∧ Below w.heap.size w wx)
  case first =>
    go_region_held3 (fun w' => w'.cell? ⟨b, 0, none⟩ = some (.string s) ∧ w'.cell? ⟨b, 1, none⟩ = some (.int .i64 k)) (first | exact ⟨d0, d1⟩ | exact ⟨c0, c1⟩ | go_keep) (first
      | (go_at_call 219; refine (commentOf_any _ w.drew hx).mono ?_; rintro e w2 ⟨n, rfl, hn, hdn, hb2⟩; have hb2' := box_next w w2 hb2; have d0 := (hb2'.cell (p := ⟨b, 0, none⟩) hz).trans c0; have d1 := (hb2'.cell (p := ⟨b, 1, none⟩) hz).trans c1; have HB2 := Lib.hid hb2'; have HDN := Lib.hid hdn; clear hb2' hb2 hdn))
    all_goals go_wp2_with fail
    all_goals go_meet
    have hdn := HDN.out
    rw [HX.out, hC, List.drop_drop] at hdn
    refine ⟨n, ?_, rfl, by have := HXS.out; omega, hdn, HB2.out⟩
    rw [HX.out, hC]
  case rest =>
  obtain ⟨n, rfl, rfl, hnk, hdn, hb2'⟩ := hcut
  rename World => w2
  have hr2 : Rc w2 b s k V := HR.out.below hb2'
  have ho2 : Ot N w2 V l := HO.out.below hb2'
  have hZ2 : N ≤ w2.heap.size := Nat.le_trans hZ hb2'.size
  clear c0 c1
  have c2 := hr2.c2; have f2 := hr2.f 2
  have hfr : Fr N w2 ⟨⟨3, ⟨#[]⟩, B C.1, [], false⟩, none, 0⟩ := fr_none N w2 _ rfl
  have HC := Lib.hid hC
  have HR2 := Lib.hid hr2; have HO2 := Lib.hid ho2; have HF := Lib.hid hfr; have HB2 := Lib.hid hb2'; have HDN := Lib.hid hdn
  clear hr2 ho2 hfr hb2' hdn hC
  go_wp2_with (at_builtin; refine app_tok2 w2 rfl (.tmp 21) (.tmp 24) rfl N V l ⟨⟨3, ⟨#[]⟩, B C.1, [], false⟩, none, 0⟩ rfl HO2.out.ow HF.out.att HF.out.ap w2.heap.size rfl rfl hl hZ2 ?_; intro v4 w4 how hk hf hg; obtain ⟨A4, cc4, rfl⟩ := form1 how; have hrc4 := rc_over HR2.out HO2.out hg; have c4 := hrc4.c2; have f4 := hrc4.f 2; have c1 := hrc4.c1; have f1 := hrc4.f 1; have HK := Lib.hid hk; have HFF := Lib.hid hf; have HG := Lib.hid hg; have HOW := Lib.hid how; clear hk hf hg how hrc4 c2 f2)
  go_end0
  obtain ⟨r1, r2⟩ := Rg.add HR2.out HO2.out hN HF.out HOW.out HK.out HFF.out HG.out
  obtain ⟨V5, hr5, ho5, _⟩ := r1
  have h6 := hr5.set1 (k + n)
  obtain ⟨r3, r4⟩ := Rg.step hr5 ho5 hN (g_set _ b 1 _) h6
  refine ⟨rfl, _, _, hnk, ?_, r3, ?_, r4 _ (r2 _ (HB2.out.mono hZ))⟩
  · rw [HC.out]; exact HDN.out
  · rw [tks_append, HC.out]; rfl

end Go.Proofs.YtgjlfcamgkeibaaGreatDoor.To

namespace Go.Proofs.YtgjlfcamgkeibaaGreatDoor.To
set_option maxRecDepth 100000
set_option linter.unusedSimpArgs false
set_option linter.unusedVariables false
open Go.RowKit Ba Fm Fo Tm Nm
open Ro (At acells len_acells below_new Sh Ra acells_one info_attr)
open Re (Tab)
open Rm (dec)
theorem raw1 (n : ByteArray) (w : World) (q : Bool) (h : isIn n rawL = q) : Calls Tryz.prog 79 #[.string n] w fun e w' => e = .returned (.bool q) ∧ Below w.heap.size w w' := by
  subst h
  exact Na.raw_any n w
theorem soft1 (n : ByteArray) (w : World) (q : Bool) (h : isIn n softL = q) : Calls Tryz.prog 173 #[.string n] w fun e w' => e = .returned (.bool q) ∧ Below w.heap.size w w' := by
  subst h
  exact Na.soft_any n w
theorem cont_raw {n : ByteArray} {l : List UInt8} (h : isIn n rawL = true) : cont (L n) l = (txt (lead (isEnd (L n)) l), trail (isEnd (L n)) l) := by
  unfold cont rawB
  rw [B_L, if_pos h]
theorem cont_soft {n : ByteArray} {l : List UInt8} (h : isIn n rawL = false) (h' : isIn n softL = true) : cont (L n) l = (txt (dec (lead (isEnd (L n)) l)), trail (isEnd (L n)) l) := by
  unfold cont rawB softB
  rw [B_L, if_neg (by rw [h]; simp), if_pos h']
theorem cont_no {n : ByteArray} {l : List UInt8} (h : isIn n rawL = false) (h' : isIn n softL = false) : cont (L n) l = ([], l) := by
  unfold cont rawB softB
  rw [B_L, if_neg (by rw [h]; simp), if_neg (by rw [h']; simp)]
theorem len_txt (d : List UInt8) : (txt d).length ≤ 1 := by
  unfold txt
  split <;> simp
theorem tks_len {l l' : List Tw} {m : List Tk} {n : Nat} (h : tks l' = tks l ++ m) (hm : m.length ≤ n) : l'.length ≤ l.length + n := by
  have := congrArg List.length h
  rw [List.length_append, len_tks, len_tks] at this
  omega

set_option maxRecDepth 100000 in
set_option maxHeartbeats 2000000 in
theorem contents_any (N b k : Nat) (s nm : ByteArray) (l : List Tw) (w : World) (h : Rg N w b s k l) (hk : k ≤ s.size) (hs : s.size ≤ 1000000000) (hn : nm.size ≤ 140737488351232) (hl : l.length ≤ 4000000000) (hT : Tab w) (hN0 : 0 < N) :
    Calls Tryz.prog 119 #[rp b, .string nm] w fun e w' => e = .returned (.tuple #[]) ∧ ∃ m l', m ≤ s.size ∧ (L s).drop m = (cont (L nm) ((L s).drop k)).2 ∧ Rg N w' b s m l' ∧ tks l' = tks l ++ (cont (L nm) ((L s).drop k)).1 ∧ Below N w w' := by
  have hs' : s.size ≤ 140737488351232 := by omega
  cases hraw : isIn nm rawL with
  | true =>
    rw [cont_raw hraw]
    have HR := Lib.hid hraw; have HG := Lib.hid h; have HT := Lib.hid hT; clear hraw h hT
    go_enter Tryz.func119, Tryz.ntmps119
    go_wp2_with fail
    refine (raw1 nm w true HR.out).mono ?_
    rintro e w1 ⟨rfl, hb1⟩
    obtain ⟨g1, B1⟩ := HG.out.below hb1
    obtain ⟨V, hr, ho, hN⟩ := g1
    go_wp2_with fail
    refine (upToEnd_any b k s V nm hn w1 hr hk hs').mono ?_
    rintro e w2 ⟨rfl, m, hm, hd, h2, hg2⟩
    obtain ⟨g2, B2⟩ := Rg.step hr ho hN hg2 h2
    have B3 := B2 _ B1
    have HD := Lib.hid hd; clear hd hr ho hg2 h2 B2 B1 hb1
    go_wp2_with fail
    refine (addText_any N b m s _ l w2 g2 hl).mono ?_
    rintro e w3 ⟨rfl, l', g3, ht, B4⟩
    go_wp2
    go_end0
    rw [L_B] at ht
    exact ⟨rfl, m, l', hm, HD.out, g3, ht, B4 _ B3⟩
  | false =>
  cases hsoft : isIn nm softL with
  | true =>
    rw [cont_soft hraw hsoft]
    have HR := Lib.hid hraw; have HS := Lib.hid hsoft; have HG := Lib.hid h; have HT := Lib.hid hT; clear hraw h hT hsoft
    go_enter Tryz.func119, Tryz.ntmps119
    go_wp2_with fail
    refine (raw1 nm w false HR.out).mono ?_
    rintro e w0 ⟨rfl, hb0⟩
    go_wp2_with fail
    refine (soft1 nm w0 true HS.out).mono ?_
    rintro e w1 ⟨rfl, hb1⟩
    obtain ⟨g1, B1⟩ := HG.out.below (bt hb0 hb1)
    obtain ⟨V, hr, ho, hN⟩ := g1
    go_wp2_with fail
    refine (upToEnd_any b k s V nm hn w1 hr hk hs').mono ?_
    rintro e w2 ⟨rfl, m, hm, hd, h2, hg2⟩
    obtain ⟨g2, B2⟩ := Rg.step hr ho hN hg2 h2
    have B3 := B2 _ B1
    have hT2 := tab_below HT.out B3 hN0
    have hsz : (B (lead (isEnd (L nm)) ((L s).drop k))).size ≤ 140737488351232 := by
      rw [size_B]
      have := len_lead (isEnd (L nm)) ((L s).drop k)
      rw [List.length_drop, size_L] at this
      omega
    have HD := Lib.hid hd; clear hd hr ho hg2 h2 B2 B1 hb1 hb0
    go_wp2_with fail
    refine (Re.decode_any _ w2 hT2 hsz).mono ?_
    rintro e w3 ⟨rfl, hb3⟩
    obtain ⟨g3, B4⟩ := g2.below hb3
    have B5 := B3.trans B4
    clear g2 B3 hT2 hb3 B4
    go_wp2_with fail
    refine (addText_any N b m s _ l w3 g3 hl).mono ?_
    rintro e w4 ⟨rfl, l', g4, ht, B6⟩
    go_wp2
    go_end0
    rw [L_B, L_B] at ht
    exact ⟨rfl, m, l', hm, HD.out, g4, ht, B6 _ B5⟩
  | false =>
    rw [cont_no hraw hsoft]
    have HR := Lib.hid hraw; have HS := Lib.hid hsoft; have HG := Lib.hid h; have HT := Lib.hid hT; clear hraw h hT hsoft
    go_enter Tryz.func119, Tryz.ntmps119
    go_wp2_with fail
    refine (raw1 nm w false HR.out).mono ?_
    rintro e w0 ⟨rfl, hb0⟩
    go_wp2_with fail
    refine (soft1 nm w0 false HS.out).mono ?_
    rintro e w1 ⟨rfl, hb1⟩
    obtain ⟨g1, B1⟩ := HG.out.below (bt hb0 hb1)
    go_wp2
    go_end0
    exact ⟨rfl, k, l, hk, rfl, g1, (List.append_nil _).symm, B1⟩

theorem start_no {l : List UInt8} (h : attrs false [] (from_ en l) = none) : startTag l = ([], []) ∧ endTag l = ([], []) := by
  unfold startTag endTag
  rw [h]
  exact ⟨rfl, rfl⟩
theorem start_yes {l r : List UInt8} {bs : List At} {sf : Bool} (h : attrs false [] (from_ en l) = some (bs, sf, r)) :
    startTag l = (⟨1, B (lowL (upTo en l)), B [], bs, sf⟩ :: (cont (lowL (upTo en l)) r).1, (cont (lowL (upTo en l)) r).2) ∧ endTag l = ([⟨2, B (lowL (upTo en l)), B [], [], false⟩], r) := by
  unfold startTag endTag
  rw [h]
  exact ⟨rfl, rfl⟩
theorem Aw.fr {N : Nat} {w : World} {A : Option Addr} {c : Nat} {l : List At} (h : Aw N w (.slice A l.length c) l) (k : Int) (n d : ByteArray) (sf : Bool) : Fr N w ⟨⟨k, n, d, l, sf⟩, A, c⟩ := h

end Go.Proofs.YtgjlfcamgkeibaaGreatDoor.To
