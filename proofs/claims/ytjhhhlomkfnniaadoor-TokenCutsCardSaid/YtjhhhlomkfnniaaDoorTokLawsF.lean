/-
  Walks of stage 6's laws TokenIns and TokenCuts: each returns true.
-/
import Derived.Test.YtjhhhlomkfnniaaDoorTokRefJ
namespace Go.Proofs.YtjhhhlomkfnniaaDoor.To
set_option linter.unusedSimpArgs false
set_option linter.unusedVariables false
open Go.RowKit Ba Fm Fo Tm Sm
open Ro (below_new At acells len_acells Sh Ra range2)
open Re (Tab)

theorem refIn1 (s nm : ByteArray) (w : World) (t : List Tk) (hs : s.size ≤ 500000) (hn : nm.size ≤ 140737488351232) (ht : within (L nm) (L s) = t) :
    Calls Tryd.prog 12 #[.string s, .string nm] w fun e w' => ∃ V, e = .returned V ∧ Tv w' V t ∧ Below w.heap.size w w' := by
  refine (refIn_any s nm w hs hn).mono ?_
  rintro e w' ⟨V, l, he, ho, hl, hb⟩
  exact ⟨V, he, by rw [← ht, ← hl]; exact ho.tv, hb⟩

set_option maxRecDepth 100000 in
set_option maxHeartbeats 8000000 in
theorem law_ins (a b : ByteArray) (ha : a.size ≤ 140737488351232) (hb : b.size ≤ 140737488351232) (w : World) (hT : Tab w) :
    Calls Tryd.prog 4 #[.string a, .string b] w fun e w' => e = .returned (.bool true) ∧ Below w.heap.size w w' := by
  obtain ⟨k1, hk1, hk2, -, hmin⟩ := min_any a.size 500 500 rfl w
  obtain ⟨u, hu⟩ : ∃ u, a.extract 0 k1 = u := ⟨_, rfl⟩
  have hus : u.size = k1 := by rw [← hu]; exact size_take a k1 hk1
  obtain ⟨t, ht⟩ : ∃ t, within (L b) (L u) = t := ⟨_, rfl⟩
  have hl : t.length ≤ 1000000 := by
    have := within_len (L b) (L u)
    rw [ht, size_L, hus] at this
    omega
  have zu : u.size ≤ 500 := by omega
  have HU := Lib.hid hu; have HT := Lib.hid hT; have HTT := Lib.hid ht
  clear hu hT hus ht
  go_enter Tryd.func4, Tryd.ntmps4
  go_wp2_with fail
  rw [HU.out]
  clear hmin HU ha hk1 hk2
  refine (fixed_any _ HT.out).mono ?_
  rintro e w1 ⟨rfl, b1⟩
  go_wp2_with fail
  refine (inT u b w1 t (by omega) hb (HT.out.below b1) HTT.out).mono ?_
  rintro e w2 ⟨V2, rfl, t2, b2⟩
  have B2 := bt b1 b2
  go_wp2_with fail
  refine (refIn1 u b w2 t (by omega) hb HTT.out).mono ?_
  rintro e w3 ⟨V3, rfl, t3, b3⟩
  have B3 := bt B2 b3
  go_wp2_with fail
  refine (sameT (t2.below b3) t3 hl hl true (by simp)).mono ?_
  rintro e w4 ⟨rfl, b4⟩
  have B4 := Lib.hid (bt B3 b4)
  clear t2 t3 b1 b2 b3 b4 B2 B3
  go_wp2
  go_ret
  exact ⟨rfl, B4.out⟩

/-- What spoil writes: the tokens' cells, and those of their attributes. -/
def Sp (w : World) (N g : Nat) (l : List Tw) : Prop :=
  (∃ cur : Array Value, w.heap[g]? = some (.cells cur 35 (0, 0)) ∧ l.length * 5 ≤ cur.size ∧ ∀ j (h : j < l.length), cur[j * 5 + 3]? = some (.slice l[j].A l[j].tk.attrs.length l[j].c)) ∧
  ∀ j (h : j < l.length), 0 < l[j].tk.attrs.length → ∃ b, ∃ cur : Array Value, l[j].A = some ⟨b, 0, none⟩ ∧ N ≤ b ∧ w.heap[b]? = some (.cells cur 37 (0, 0)) ∧ l[j].tk.attrs.length * 2 ≤ cur.size
theorem heap_set (w : World) (g o : Nat) (v : Value) (cur : Array Value) (t : TypeId) (h : w.heap[g]? = some (.cells cur t (0, 0))) : (w.setCell ⟨g, o, none⟩ v).heap[g]? = some (.cells (cur.setIfInBounds o v) t (0, 0)) := by
  simp [World.setCell, Array.getElem?_modify, h]
theorem heap_set_ne (w : World) (g o b : Nat) (v : Value) (hne : g ≠ b) : (w.setCell ⟨g, o, none⟩ v).heap[b]? = w.heap[b]? := by
  simp [World.setCell, Array.getElem?_modify, hne]
theorem type_ne {w : World} {g b : Nat} {c1 c2 : Array Value} (h1 : w.heap[g]? = some (.cells c1 35 (0, 0))) (h2 : w.heap[b]? = some (.cells c2 37 (0, 0))) : g ≠ b := fun e => by
  subst e
  rw [h1] at h2
  injection h2 with h2
  injection h2 with _ h2
  exact absurd h2 (by decide)
/-- A token's name is written. -/
theorem Sp.name {w : World} {N g : Nat} {l : List Tw} (h : Sp w N g l) (i : Nat) (v : Value) : Sp (w.setCell ⟨g, i * 5 + 1, none⟩ v) N g l := by
  obtain ⟨⟨cur, hc, hs, hr⟩, ha⟩ := h
  refine ⟨⟨_, heap_set w g _ v cur _ hc, by simpa using hs, fun j hj => ?_⟩, fun j hj h0 => ?_⟩
  · rw [Array.getElem?_setIfInBounds_ne (by omega)]
    exact hr j hj
  · obtain ⟨b, cb, e, hb, hcb, hsb⟩ := ha j hj h0
    exact ⟨b, cb, e, hb, by rw [heap_set_ne w g _ b v (type_ne hc hcb)]; exact hcb, hsb⟩
/-- An attribute's name is written. -/
theorem Sp.attr {w : World} {N g b : Nat} {l : List Tw} (h : Sp w N g l) {cb : Array Value} (hb : w.heap[b]? = some (.cells cb 37 (0, 0))) (o : Nat) (v : Value) : Sp (w.setCell ⟨b, o, none⟩ v) N g l := by
  obtain ⟨⟨cur, hc, hs, hr⟩, ha⟩ := h
  have hne := type_ne hc hb
  refine ⟨⟨cur, by rw [heap_set_ne w b o g v hne.symm]; exact hc, hs, hr⟩, fun j hj h0 => ?_⟩
  obtain ⟨b2, c2, e, hb2, hc2, hs2⟩ := ha j hj h0
  by_cases hbb : b = b2
  · subst hbb
    exact ⟨b, _, e, hb2, heap_set w b o v c2 _ hc2, by simpa using hs2⟩
  · exact ⟨b2, c2, e, hb2, by rw [heap_set_ne w b o b2 v hbb]; exact hc2, hs2⟩
theorem flat_at5 (l : List Tw) (j i : Nat) (hj : j < l.length) (hi : i < 5) : (l.flatMap cells)[j * 5 + i]? = (cells l[j])[i]? := Ro.flat_at cells 5 len_cells l j i hj hi
theorem Ot.sp {N : Nat} {w : World} {v : Value} {l : List Tw} (h : Ot N w v l) (h0 : 0 < l.length) : ∃ g c, v = .slice (some ⟨g, 0, none⟩) l.length c ∧ N ≤ g ∧ l.length ≤ c ∧ Sp w N g l := by
  rcases h.1.2 with ⟨_, hn⟩ | ⟨g, cap, cur, hv, hg, hh, hn, hm, hsz, ht⟩
  · omega
  · refine ⟨g, cap, hv, hg, hn, ⟨cur, hh, by rw [hsz]; exact Nat.mul_le_mul_right 5 hn, fun j hj => ?_⟩, fun j hj hj0 => ?_⟩
    · have h1 := flat_at5 l j 3 hj (by omega)
      have h2 : (cur.toList.take (l.length * 5))[j * 5 + 3]? = cur[j * 5 + 3]? := by
        rw [List.getElem?_take, if_pos (by omega)]
        simp
      rw [ht, h1] at h2
      exact h2.symm
    · rcases (h.2 _ (List.getElem_mem hj)).1.2 with ⟨_, hn'⟩ | ⟨g', cap', cur', hv', hg', hh', hn', hm', hsz', ht'⟩
      · omega
      · injection hv' with e1 _ _
        exact ⟨g', cur', e1, hg', hh', by rw [hsz']; exact Nat.mul_le_mul_right 2 hn'⟩

theorem Sp.cells {w : World} {N g : Nat} {l : List Tw} (h : Sp w N g l) (j : Nat) (hj : j < l.length) :
    (∃ v, w.cell? ⟨g, j * 5 + 1, none⟩ = some v) ∧ w.cell? ⟨g, j * 5 + 3, none⟩ = some (.slice l[j].A l[j].tk.attrs.length l[j].c) ∧ w.frozen? ⟨g, j * 5 + 1, none⟩ = false := by
  obtain ⟨⟨cur, hc, hs, hr⟩, _⟩ := h
  refine ⟨⟨cur[j * 5 + 1]'(by omega), ?_⟩, ?_, ?_⟩
  · rw [cell_of_row w g _ _ _ _ hc]
    exact Array.getElem?_eq_getElem (by omega)
  · rw [cell_of_row w g _ _ _ _ hc]
    exact hr j hj
  · simp [World.frozen?, hc]

set_option maxRecDepth 100000 in
set_option maxHeartbeats 4000000 in
theorem spoil_any (N : Nat) (v : Value) (l : List Tw) (w : World) (h : Ot N w v l) (hl : l.length ≤ 1000000) :
    Calls Tryd.prog 15 #[v] w fun e w' => e = .returned (.tuple #[]) ∧ Below N w w' := by
  by_cases h0 : 0 < l.length
  · have hat : ∀ x ∈ l, x.tk.attrs.length ≤ maxLen := fun x hx => Nat.le_trans (h.ow.2 x hx).1.1 (h.ow.2 x hx).1.2.2.1
    obtain ⟨g, c, rfl, hg, hc, hsp⟩ := h.sp h0
    have HAT := Lib.hid hat
    clear h hat
    go_enter Tryd.func15, Tryd.ntmps15
    go_wp2
    go_loopw [2] (fun i wr => ∃ k : Nat, i = .int .i64 k ∧ k ≤ l.length ∧ Sp wr N g l ∧ Below N w wr) (fun i _ => l.length - (intOf i).toNat)
    case atStart => exact ⟨0, rfl, Nat.zero_le _, hsp, Below.refl _ _⟩
    case round =>
      clear hsp
      obtain ⟨k, rfl, hk, hs, hb⟩ := hrel
      by_cases hp : k < l.length
      · have hlt : decide ((k : Int) < l.length) = true := decide_eq_true (by omega)
        obtain ⟨⟨v1, c1⟩, c3, f1⟩ := hs.cells k hp
        have hs2 := hs.name k (.string ⟨#[120]⟩)
        have hb2 := hb.setCell (p := ⟨g, k * 5 + 1, none⟩) hg (.string ⟨#[120]⟩)
        have hn : l[k].tk.attrs.length ≤ maxLen := HAT.out _ (List.getElem_mem hp)
        obtain ⟨n, hne⟩ : ∃ n, l[k].tk.attrs.length = n := ⟨_, rfl⟩
        have HS2 := Lib.hid hs2; have HB2 := Lib.hid hb2; have HNE := Lib.hid hne; clear hs hb hs2 hb2 hne
        go_wp2
        clear c1 c3 f1
        go_loopw [3] (fun j wq => ∃ m : Nat, j = .int .i64 m ∧ m ≤ n ∧ Sp wq N g l ∧ Below N w wq) (fun j _ => n - (intOf j).toNat)
        case atStart => exact ⟨0, rfl, Nat.zero_le _, HS2.out, HB2.out⟩
        case round =>
          clear HS2 HB2
          obtain ⟨m, rfl, hm, hs3, hb3⟩ := hrel
          obtain ⟨_, c3, _⟩ := hs3.cells k hp
          rw [HNE.out] at c3 hn
          unfold maxLen at hn
          by_cases hmp : m < n
          · have hmlt : decide ((m : Int) < n) = true := decide_eq_true (by omega)
            obtain ⟨b, cur, hA, hNb, hcb, hsb⟩ := hs3.2 k hp (by rw [HNE.out]; omega)
            rw [HNE.out] at hsb
            rw [hA] at c3
            have d1 : wr.cell? ⟨b, m * 2, none⟩ = some (cur[m * 2]'(by omega)) := by
              rw [cell_of_row wr b _ _ _ _ hcb]
              exact Array.getElem?_eq_getElem (by omega)
            have d2 : wr.frozen? ⟨b, m * 2, none⟩ = false := by simp [World.frozen?, hcb]
            have hs4 := hs3.attr hcb (m * 2) (.string ⟨#[]⟩)
            have hb4 := hb3.setCell (p := ⟨b, m * 2, none⟩) hNb (.string ⟨#[]⟩)
            generalize cur[m * 2]'(by omega) = vv at d1
            have HS4 := Lib.hid hs4; have HB4 := Lib.hid hb4; clear hs3 hb3 hs4 hb4 hA hcb hsb
            go_wp2
            go_roundw
            case rel => exact ⟨m + 1, by go_num, by omega, HS4.out, HB4.out⟩
            case measure => simp [intOf]; omega
          · have hmlt : decide ((m : Int) < n) = false := decide_eq_false (by omega)
            have HS3 := Lib.hid hs3; have HB3 := Lib.hid hb3; clear hs3 hb3
            go_wp2
            go_roundw
            case rel => exact ⟨k + 1, by go_num, by omega, HS3.out, HB3.out⟩
            case measure => simp [intOf]; omega
      · have hlt : decide ((k : Int) < l.length) = false := decide_eq_false (by omega)
        have HB := Lib.hid hb; clear hs hb
        go_wp2
        first | go_end0 | refine bodyPost_ret (results_none rfl _ _ _) rfl ?_
        exact ⟨rfl, HB.out⟩
  · obtain ⟨A, c, rfl, _, _, _, _⟩ := h.form
    obtain rfl : l = [] := List.eq_nil_of_length_eq_zero (by omega)
    clear h
    go_enter Tryd.func15, Tryd.ntmps15
    go_wp2
    refine wp_loop_rounds 1 ?_
    rw [rounds_succ]
    go_wp2
    first | go_end0 | refine bodyPost_ret (results_none rfl _ _ _) rfl ?_
    exact ⟨rfl, Below.refl _ _⟩

set_option maxRecDepth 100000 in
set_option maxHeartbeats 8000000 in
theorem law_cuts (a : ByteArray) (ha : a.size ≤ 140737488351232) (w : World) (hT : Tab w) :
    Calls Tryd.prog 3 #[.string a] w fun e w' => e = .returned (.bool true) ∧ Below w.heap.size w w' := by
  obtain ⟨k1, hk1, hk2, -, hmin⟩ := min_any a.size 500 500 rfl w
  obtain ⟨u, hu⟩ : ∃ u, a.extract 0 k1 = u := ⟨_, rfl⟩
  have hus : u.size = k1 := by rw [← hu]; exact size_take a k1 hk1
  obtain ⟨t, ht⟩ : ∃ t, within [] (L u) = t := ⟨_, rfl⟩
  have hl : t.length ≤ 1000000 := by
    have := within_len [] (L u)
    rw [ht, size_L, hus] at this
    omega
  have zu : u.size ≤ 500 := by omega
  have HU := Lib.hid hu; have HT := Lib.hid hT; have HTT := Lib.hid ht
  clear hu hT hus ht
  go_enter Tryd.func3, Tryd.ntmps3
  go_wp2_with fail
  rw [HU.out]
  clear hmin HU ha hk1 hk2
  refine (refIn1 u ⟨#[]⟩ w t (by omega) (by decide) HTT.out).mono ?_
  rintro e w1 ⟨V1, rfl, t1, b1⟩
  have TT := Lib.hid t1; have B1 := Lib.hid b1; clear t1 b1
  go_wp2_with fail
  go_loopw [4, 5] (fun i _ wr => ∃ k : Nat, i = .int .i64 k ∧ k ≤ 2 ∧ Tv wr V1 t ∧ Below w.heap.size w wr) (fun i _ _ => 2 - (intOf i).toNat)
  case atStart => exact ⟨0, rfl, Nat.zero_le _, TT.out, B1.out⟩
  case round =>
    clear TT B1
    obtain ⟨k, rfl, hk, tv, hb⟩ := hrel
    by_cases hp : k < 2
    · have hlt : decide ((k : Int) < 2) = true := decide_eq_true (by omega)
      have HV := Lib.hid tv; have HB := Lib.hid hb; clear tv hb
      go_wp2_with fail
      refine (Cut_any u wr (by omega) (HT.out.below HB.out)).mono ?_
      rintro e w2 ⟨V2, l2, rfl, ho2, hl2, b2⟩
      have tv2 := ho2.tv
      rw [hl2, HTT.out] at tv2
      have hll : l2.length ≤ 1000000 := by
        have := congrArg List.length hl2
        rw [len_tks, HTT.out] at this
        omega
      have HV2 := Lib.hid (HV.out.below b2); have HO2 := Lib.hid ho2; have B2 := Lib.hid b2; clear ho2 hl2 b2
      go_wp2_with fail
      refine (sameT tv2 HV2.out hl hl true (by simp)).mono ?_
      rintro e w3 ⟨rfl, b3⟩
      have HO3 := Lib.hid (HO2.out.below b3); have B3 := Lib.hid (bt B2.out b3); clear tv2 b3
      go_wp2_with fail
      refine (spoil_any wr.heap.size V2 l2 w3 HO3.out hll).mono ?_
      rintro e w4 ⟨rfl, b4⟩
      have B4 := Lib.hid (B3.out.trans b4); clear b4
      go_wp2
      go_roundw
      case rel => exact ⟨k + 1, by go_num, by omega, HV.out.below B4.out, bt HB.out B4.out⟩
      case measure => simp [intOf]; omega
    · have hlt : decide ((k : Int) < 2) = false := decide_eq_false (by omega)
      have HB := Lib.hid hb; clear tv hb
      go_wp2_with fail
      refine (fixed_any _ (HT.out.below HB.out)).mono ?_
      rintro e w5 ⟨rfl, b5⟩
      go_wp2
      go_ret
      exact ⟨rfl, bt HB.out b5⟩

end Go.Proofs.YtjhhhlomkfnniaaDoor.To
