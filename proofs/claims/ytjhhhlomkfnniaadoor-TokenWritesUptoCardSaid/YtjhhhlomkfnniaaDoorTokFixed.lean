/-
  Stage 6: slices that read as tokens; the calls whose answers the document fixes.
-/
import Derived.Test.YtjhhhlomkfnniaaDoorTokEval
import Derived.Test.YtjhhhlomkfnniaaDoorTokPut
import Derived.Test.YtjhhhlomkfnniaaDoorTokSame
namespace Go.Proofs.YtjhhhlomkfnniaaDoor.To
set_option linter.unusedSimpArgs false
set_option linter.unusedVariables false
open Go.RowKit Ba Fm Fo Tm
open Ro (At acells len_acells below_new Sh Ra acells_one info_attr range2 range5 flat_at flat_len)
open Re (Tab)

/-- A value reads as tokens. -/
def Tv (w : World) (V : Value) (t : List Tk) : Prop := ∃ A c l, V = .slice A t.length c ∧ t.length ≤ c ∧ Rr w w.heap.size A l ∧ tks l = t
theorem Ot.tv {N : Nat} {w : World} {V : Value} {l : List Tw} (h : Ot N w V l) : Tv w V (tks l) := by
  obtain ⟨A, c, e, hc, _, _, hr⟩ := h.form
  exact ⟨A, c, l, by rw [len_tks]; exact e, by rw [len_tks]; exact hc, hr, rfl⟩
theorem Tv.below {w w' : World} {V : Value} {t : List Tk} (h : Tv w V t) (hb : Below w.heap.size w w') : Tv w' V t := by
  obtain ⟨A, c, l, e, hc, hr, ht⟩ := h
  exact ⟨A, c, l, e, hc, (hr.below hb).more hb.size, ht⟩
theorem sameT {w : World} {V V' : Value} {t t' : List Tk} (h : Tv w V t) (h' : Tv w V' t') (hl : t.length ≤ 1000000) (hl' : t'.length ≤ 1000000) (q : Bool) (hq : decide (t = t') = q) :
    Calls Tryd.prog 14 #[V, V'] w fun e w' => e = .returned (.bool q) ∧ Below w.heap.size w w' := by
  obtain ⟨A, c, l, rfl, hc, hr, rfl⟩ := h
  obtain ⟨A', c', l', rfl, hc', hr', rfl⟩ := h'
  rw [len_tks] at hc hc' hl hl' ⊢
  rw [len_tks]
  have := refSame_any A A' c c' l l' w hr hr' hc hc' hl hl'
  rwa [hq] at this
theorem writeT {w : World} {V : Value} {t : List Tk} (h : Tv w V t) (hb : bulk t ≤ 10000000) (hl : t.length ≤ 1000000) (u : List UInt8) (hu : wAll false t = u) :
    Calls Tryd.prog 19 #[V] w fun e w' => e = .returned (.string (B u)) ∧ Below w.heap.size w w' := by
  obtain ⟨A, c, l, rfl, hc, hr, rfl⟩ := h
  rw [len_tks] at hl ⊢
  have := Write_any w.heap.size A c l w hr (Nat.le_refl _) hb hl
  rwa [hu] at this
theorem cutT (s : ByteArray) (w : World) (t : List Tk) (hs : s.size ≤ 300000000) (hT : Tab w) (ht : within [] (L s) = t) :
    Calls Tryd.prog 13 #[.string s] w fun e w' => ∃ V, e = .returned V ∧ Tv w' V t ∧ Below w.heap.size w w' := by
  refine (Cut_any s w hs hT).mono ?_
  rintro e w' ⟨V, l, he, ho, hl, hb⟩
  exact ⟨V, he, by rw [← ht, ← hl]; exact ho.tv, hb⟩
theorem inT (s nm : ByteArray) (w : World) (t : List Tk) (hs : s.size ≤ 300000000) (hn : nm.size ≤ 140737488351232) (hT : Tab w) (ht : within (L nm) (L s) = t) :
    Calls Tryd.prog 17 #[.string s, .string nm] w fun e w' => ∃ V, e = .returned V ∧ Tv w' V t ∧ Below w.heap.size w w' := by
  refine (In_any s nm w hs hn hT).mono ?_
  rintro e w' ⟨V, l, he, ho, hl, hb⟩
  exact ⟨V, he, by rw [← ht, ← hl]; exact ho.tv, hb⟩

theorem att_none (w : World) (N : Nat) (t : Tk) (ht : t.attrs = []) : Att w N ⟨t, none, 0⟩ := by
  refine ⟨by show t.attrs.length ≤ 0; rw [ht]; exact Nat.le_refl _, fun _ => rfl, Nat.zero_le _, ?_, fun a ha => ?_⟩
  · show Ra w N none t.attrs
    rw [ht]
    exact Ro.Ra.nil _ _ _
  · have : a ∈ t.attrs := ha
    rw [ht] at this
    cases this
/-- Tokens written out. -/
theorem Tv.lit (w : World) (l : List Tw) (h : ∀ x ∈ l, Att w w.heap.size x) : Tv (w.alloc (.cells (l.flatMap cells).toArray 35)) (.slice (some ⟨w.heap.size, 0, none⟩) l.length l.length) (tks l) := by
  refine ⟨_, _, l, by rw [len_tks], by rw [len_tks]; exact Nat.le_refl _, ⟨fun h0 => ⟨w.heap.size, 0, rfl, by simp, fun j hj i u hu => ?_⟩, fun x hx => (h x hx).boxed (Below.refl _ _) _⟩, rfl⟩
  have hi : i < 5 := (List.getElem?_eq_some_iff.1 hu).1
  rw [World.cell?_alloc_mark]
  rw [show 0 + j * 5 + i = j * 5 + i from by omega]
  simp only [List.getElem?_toArray]
  rw [flat_at cells 5 len_cells _ _ _ hj hi]
  exact hu

theorem writeL {w : World} {V : Value} {t : List Tk} (h : Tv w V t) (hb : bulk t ≤ 10000000) (hl : t.length ≤ 1000000) (s : ByteArray) (hu : wAll false t = L s) :
    Calls Tryd.prog 19 #[V] w fun e w' => e = .returned (.string s) ∧ Below w.heap.size w w' := by
  have := writeT h hb hl _ hu
  rwa [B_L] at this
theorem att_one (w : World) (k : Int) (n d : ByteArray) (a : At) (sf : Bool) (ha : a.name.size ≤ maxLen) : Att (w.alloc (.cells #[.string a.name, .string a.value] 37)) (w.alloc (.cells #[.string a.name, .string a.value] 37)).heap.size ⟨⟨k, n, d, [a], sf⟩, some ⟨w.heap.size, 0, none⟩, 1⟩ := by
  refine ⟨Nat.le_refl _, (fun e => by cases e), by show 1 ≤ maxLen; unfold maxLen; decide, fun _ => ⟨w.heap.size, 0, rfl, by simp, fun j hj i v hv => ?_⟩, fun b hb => ?_⟩
  · have hj0 : j = 0 := by
      have : j < 1 := hj
      omega
    subst hj0
    have hb := Bx.new w a.name a.value
    have hv : (acells a)[i]? = some v := hv
    match i with
    | 0 => exact hb.c0.trans hv
    | 1 => exact hb.c1.trans hv
    | i + 2 => simp [acells] at hv
  · have : b ∈ [a] := hb
    rw [List.mem_singleton.1 this]
    exact ha

/-- The same tokens written out. -/
theorem sameLit (w : World) (V : Value) (t : List Tk) (l : List Tw) (hv : Tv w V t) (hl : ∀ x ∈ l, Att w w.heap.size x) (ht : tks l = t) (hn : t.length ≤ 1000) :
    Calls Tryd.prog 14 #[V, .slice (some ⟨w.heap.size, 0, none⟩) l.length l.length] (w.alloc (.cells (l.flatMap cells).toArray 35)) fun e w' => e = .returned (.bool true) ∧ Below w.heap.size w w' := by
  have h2 := Tv.lit w l hl
  rw [ht] at h2
  refine (sameT (hv.below (below_new w _)) h2 (by omega) (by omega) true (by simp)).mono ?_
  rintro e w' ⟨he, hb⟩
  exact ⟨he, bt (below_new w _) hb⟩
abbrev fa : At := ⟨⟨#[99]⟩, ⟨#[100]⟩⟩
theorem sameA (w : World) (V : Value) (hv : Tv w V fxA) : Calls Tryd.prog 14 #[V, .slice (some ⟨w.heap.size + 1, 0, none⟩) 4 4] ((w.alloc (.cells #[.string ⟨#[99]⟩, .string ⟨#[100]⟩] 37)).alloc (.cells #[.int .i64 0, .string ⟨#[]⟩, .string ⟨#[97]⟩, .slice none 0 0, .bool false, .int .i64 1, .string ⟨#[98]⟩, .string ⟨#[]⟩, .slice (some ⟨w.heap.size, 0, none⟩) 1 1, .bool false, .int .i64 0, .string ⟨#[]⟩, .string ⟨#[120]⟩, .slice none 0 0, .bool false, .int .i64 2, .string ⟨#[98]⟩, .string ⟨#[]⟩, .slice none 0 0, .bool false] 35)) fun e w' => e = .returned (.bool true) ∧ Below w.heap.size w w' := by
  have e1 : (w.alloc (.cells #[.string ⟨#[99]⟩, .string ⟨#[100]⟩] 37)).heap.size = w.heap.size + 1 := by simp
  have h := sameLit (w.alloc (.cells #[.string ⟨#[99]⟩, .string ⟨#[100]⟩] 37)) V fxA [⟨⟨0, ⟨#[]⟩, ⟨#[97]⟩, [], false⟩, none, 0⟩, ⟨⟨1, ⟨#[98]⟩, ⟨#[]⟩, [fa], false⟩, some ⟨w.heap.size, 0, none⟩, 1⟩, ⟨⟨0, ⟨#[]⟩, ⟨#[120]⟩, [], false⟩, none, 0⟩, ⟨⟨2, ⟨#[98]⟩, ⟨#[]⟩, [], false⟩, none, 0⟩] (hv.below (below_new w _)) (fun x hx => by
    simp only [List.mem_cons, List.not_mem_nil, or_false] at hx
    rcases hx with rfl | rfl | rfl | rfl
    · exact att_none _ _ _ rfl
    · exact att_one w 1 _ _ fa _ (by decide)
    · exact att_none _ _ _ rfl
    · exact att_none _ _ _ rfl) rfl (by decide)
  rw [e1] at h
  refine h.mono ?_
  rintro e w' ⟨he, hb⟩
  exact ⟨he, bt (below_new w _) (by rw [e1]; exact hb)⟩
theorem sameB (w : World) (V : Value) (hv : Tv w V fxB) : Calls Tryd.prog 14 #[V, .slice (some ⟨w.heap.size, 0, none⟩) 3 3] (w.alloc (.cells #[.int .i64 1, .string ⟨#[115, 99, 114, 105, 112, 116]⟩, .string ⟨#[]⟩, .slice none 0 0, .bool false, .int .i64 0, .string ⟨#[]⟩, .string ⟨#[60, 98, 62]⟩, .slice none 0 0, .bool false, .int .i64 2, .string ⟨#[115, 99, 114, 105, 112, 116]⟩, .string ⟨#[]⟩, .slice none 0 0, .bool false] 35)) fun e w' => e = .returned (.bool true) ∧ Below w.heap.size w w' :=
  sameLit w V fxB [⟨⟨1, ⟨#[115, 99, 114, 105, 112, 116]⟩, ⟨#[]⟩, [], false⟩, none, 0⟩, ⟨⟨0, ⟨#[]⟩, ⟨#[60, 98, 62]⟩, [], false⟩, none, 0⟩, ⟨⟨2, ⟨#[115, 99, 114, 105, 112, 116]⟩, ⟨#[]⟩, [], false⟩, none, 0⟩] hv (fun x hx => by
    simp only [List.mem_cons, List.not_mem_nil, or_false] at hx
    rcases hx with rfl | rfl | rfl <;> exact att_none _ _ _ rfl) (by decide) (by decide)
theorem sameC (w : World) (V : Value) (hv : Tv w V fxC) : Calls Tryd.prog 14 #[V, .slice (some ⟨w.heap.size, 0, none⟩) 1 1] (w.alloc (.cells #[.int .i64 0, .string ⟨#[]⟩, .string ⟨#[49, 32, 60, 32, 50]⟩, .slice none 0 0, .bool false] 35)) fun e w' => e = .returned (.bool true) ∧ Below w.heap.size w w' :=
  sameLit w V fxC [⟨⟨0, ⟨#[]⟩, ⟨#[49, 32, 60, 32, 50]⟩, [], false⟩, none, 0⟩] hv (fun x hx => by
    simp only [List.mem_cons, List.not_mem_nil, or_false] at hx
    subst hx
    exact att_none _ _ _ rfl) (by decide) (by decide)
theorem sameD (w : World) (V : Value) (hv : Tv w V fxD) : Calls Tryd.prog 14 #[V, .slice (some ⟨w.heap.size, 0, none⟩) 2 2] (w.alloc (.cells #[.int .i64 0, .string ⟨#[]⟩, .string ⟨#[97, 60, 98, 62, 38]⟩, .slice none 0 0, .bool false, .int .i64 2, .string ⟨#[116, 105, 116, 108, 101]⟩, .string ⟨#[]⟩, .slice none 0 0, .bool false] 35)) fun e w' => e = .returned (.bool true) ∧ Below w.heap.size w w' :=
  sameLit w V fxD [⟨⟨0, ⟨#[]⟩, ⟨#[97, 60, 98, 62, 38]⟩, [], false⟩, none, 0⟩, ⟨⟨2, ⟨#[116, 105, 116, 108, 101]⟩, ⟨#[]⟩, [], false⟩, none, 0⟩] hv (fun x hx => by
    simp only [List.mem_cons, List.not_mem_nil, or_false] at hx
    rcases hx with rfl | rfl <;> exact att_none _ _ _ rfl) (by decide) (by decide)

set_option maxRecDepth 100000 in
set_option maxHeartbeats 4000000 in
theorem fixed_any (w : World) (hT : Tab w) : Calls Tryd.prog 16 #[] w fun e w' => e = .returned (.bool true) ∧ Below w.heap.size w w' := by
  have HT := Lib.hid hT; clear hT
  go_enter Tryd.func16, Tryd.ntmps16
  go_wp2_with fail
  refine (cutT _ w fxA (by decide) HT.out fixA).mono ?_
  rintro e w1 ⟨V1, rfl, t1, b1⟩
  go_wp2_with fail
  refine (cutT _ w1 fxB (by decide) (HT.out.below b1) fixB).mono ?_
  rintro e w2 ⟨V2, rfl, t2, b2⟩
  have B2 := bt b1 b2
  go_wp2_with fail
  refine (cutT _ w2 fxC (by decide) (HT.out.below B2) fixC).mono ?_
  rintro e w3 ⟨V3, rfl, t3, b3⟩
  have B3 := bt B2 b3
  go_wp2_with fail
  refine (inT _ _ w3 fxD (by decide) (by decide) (HT.out.below B3) fixD).mono ?_
  rintro e w4 ⟨V4, rfl, t4, b4⟩
  have B4 := bt B3 b4
  have s1 := t1.below (bt (bt b2 b3) b4)
  have s2 := t2.below (bt b3 b4)
  have s3 := t3.below b4
  have T1 := Lib.hid s1; have T2 := Lib.hid s2; have T3 := Lib.hid s3; have T4 := Lib.hid t4; have BB4 := Lib.hid B4
  clear t1 t2 t3 t4 s1 s2 s3 b1 b2 b3 b4 B2 B3 B4
  go_wp2_with fail
  refine (sameA w4 V1 T1.out).mono ?_
  rintro e w5 ⟨rfl, b5⟩
  go_wp2_with fail
  refine (sameB w5 V2 (T2.out.below b5)).mono ?_
  rintro e w6 ⟨rfl, b6⟩
  have B6 := bt b5 b6
  go_wp2_with fail
  refine (sameC w6 V3 (T3.out.below B6)).mono ?_
  rintro e w7 ⟨rfl, b7⟩
  have B7 := bt B6 b7
  go_wp2_with fail
  refine (sameD w7 V4 (T4.out.below B7)).mono ?_
  rintro e w8 ⟨rfl, b8⟩
  have B8 := bt B7 b8
  go_wp2_with fail
  refine (writeL (T1.out.below B8) (by decide) (by decide) ⟨#[97, 60, 98, 32, 99, 61, 34, 100, 34, 62, 120, 60, 47, 98, 62]⟩ fixE).mono ?_
  rintro e w9 ⟨rfl, b9⟩
  have B9 := bt B8 b9
  go_wp2_with fail
  refine (writeL (T2.out.below B9) (by decide) (by decide) ⟨#[60, 115, 99, 114, 105, 112, 116, 62, 60, 98, 62, 60, 47, 115, 99, 114, 105, 112, 116, 62]⟩ fixF).mono ?_
  rintro e w10 ⟨rfl, b10⟩
  go_wp2
  go_ret
  exact ⟨rfl, bt BB4.out (bt B9 b10)⟩

end Go.Proofs.YtjhhhlomkfnniaaDoor.To
