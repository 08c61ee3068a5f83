/-
  Walks of stage 3: the start of a text (refs.first), a text decoded (refs.Decode, boltingref03.Decode).
-/
import Derived.Test.YtjhhhlomkfnniaaDoorRefsWalkE
namespace Go.Proofs.YtjhhhlomkfnniaaDoor.Re
set_option linter.unusedSimpArgs false
set_option linter.unusedVariables false
open Go.RowKit Ba Rm

theorem strCells_L (s : ByteArray) : Lib.strCells s = (L s).map bc := rfl
/-- append of a string's bytes onto bytes of the call's own. -/
theorem app_str {ops : Array Oper} {rest : List Oper} {o : Oper} {a : Act} {Q : Exit → Act → World → Prop} (w : World) (hgd : o.guard = none) (s x : Operand)
    (ho : o.op = .call { callee := .builtin .append, args := #[s, x], argTypes := #[51, 9] })
    (N : Nat) (v : Value) (l : List UInt8) (t : ByteArray) (hs : a.eval s = v) (hown : Own N w v l) (hx : a.eval x = .string t)
    (hl : l.length + t.size ≤ 140737488355328) (hN : N ≤ w.heap.size)
    (h : ∀ v' w', Own N w' v' (l ++ L t) → (∀ w0, Below N w0 w → Below N w0 w') → wpList Tryd.prog ops Q rest (a.put o.dst v') w') :
    wpList Tryd.prog ops Q (o :: rest) a w := by
  obtain ⟨i0, hi, hz0, hz1, hz2⟩ := info_parts info_u8
  refine Lib.wpList_append_own_string _ hgd s x 51 9 ho N 5 i0 Tryd.underlying51 Tryd.underlying9 hi hz0 hz1 hz2 v l.length (l.map bc) hs hown t hx (by unfold maxLen; omega) hl hN ?_
  intro v2 w2 hown2 hgrow2 _
  refine h v2 w2 ?_ fun w0 hb => hown.below hgrow2 hb hN
  rw [strCells_L] at hown2
  exact Own.appended hown2 (by rw [size_L])

theorem bodyOf1 (w : World) (s x : ByteArray) (ok : Bool) (hs : s.size ≤ 140737488355328) (h1 : B ((bod (L s)).getD []) = x) (h2 : (bod (L s)).isSome = ok) :
    Calls Tryd.prog 77 #[.string s] w fun e w' => e = .returned (.tuple #[.string x, .bool ok]) ∧ w = w' := by
  have k := bodyOf_any s w hs
  rw [h1, h2] at k
  exact k
theorem denoted1 (w : World) (s x : ByteArray) (ok : Bool) (ht : Tab w) (hs : s.size ≤ 140737488355328) (h1 : B ((meant (L s)).getD []) = x) (h2 : (meant (L s)).isSome = ok) :
    Calls Tryd.prog 78 #[.string s] w fun e w' => e = .returned (.tuple #[.string x, .bool ok]) ∧ Below w.heap.size w w' := by
  have k := denoted_any s w ht hs
  rw [h1, h2] at k
  exact k
theorem fst_amp {r : List UInt8} : fst (38 :: r) = (match bod r with | some b => (match meant b with | some t => (t, b.length + 2) | none => ([38], 1)) | none => ([38], 1)) := by
  rw [fst_cons, if_pos rfl, refAt_bod]
  cases bod r with
  | none => rfl
  | some b => cases hm : meant b <;> simp [hm]
theorem bod_len {r b : List UInt8} (h : bod r = some b) : b.length + 1 ≤ r.length := len_cut ((bod_cut r).1 b h)
theorem ext1 (s : ByteArray) (h : 0 < s.size) : s.extract 0 1 = B [s[0]] := B_of (by rw [L_extract, List.drop_zero, show 1 - 0 = 0 + 1 from rfl, take_snoc s 0 h]; rfl)

set_option maxHeartbeats 1000000 in
theorem first_any (s t : ByteArray) (n : Nat) (w : World) (ht : Tab w) (h0 : 0 < s.size) (hs : s.size ≤ 140737488355328) (h1 : B (fst (L s)).1 = t) (h2 : (fst (L s)).2 = n) :
    Calls Tryd.prog 58 #[.string s] w fun e w' => e = .returned (.tuple #[.string t, .int .i64 n]) ∧ Below w.heap.size w w' := by
  have hL : L s = s[0] :: (L s).drop 1 := by
    have := drop_cons s 0 h0
    rw [List.drop_zero] at this
    exact this
  have hz : (1 : Int) ≤ s.size := by omega
  by_cases h8 : s[0] = 38
  · have hb : (((s[0].toNat : Int)) == 38) = true := by rw [h8]; rfl
    rw [hL, h8, fst_amp] at h1 h2
    have hxs : (s.extract 1 s.size).size ≤ 140737488355328 := Nat.le_trans (size_extract s 1 s.size) hs
    have hxL := L_end s 1
    cases hbd : bod ((L s).drop 1) with
    | none =>
      rw [hbd] at h1 h2
      have e1 : t = s.extract 0 1 := by rw [← h1, ext1 s h0, h8]
      have e2 : n = 1 := h2.symm
      subst e1 e2
      have k1 : B ((bod (L (s.extract 1 s.size))).getD []) = B [] := by rw [hxL, hbd]; rfl
      have k2 : (bod (L (s.extract 1 s.size))).isSome = false := by rw [hxL, hbd]; rfl
      have K1 := Lib.hid k1; have K2 := Lib.hid k2
      clear k1 k2 hxL hbd hL h1 h2 h8
      go_enter Tryd.func58, Tryd.ntmps58
      go_wp2_with fail
      refine (bodyOf1 w _ _ _ hxs K1.out K2.out).mono ?_
      rintro e w1 ⟨rfl, rfl⟩
      go_wp2
      go_ret2
      exact ⟨rfl, Below.refl _ _⟩
    | some b =>
      rw [hbd] at h1 h2
      simp only at h1 h2
      have hbl := bod_len hbd
      rw [List.length_drop, size_L] at hbl
      have k1 : B ((bod (L (s.extract 1 s.size))).getD []) = B b := by rw [hxL, hbd]; rfl
      have k2 : (bod (L (s.extract 1 s.size))).isSome = true := by rw [hxL, hbd]; rfl
      have hbs : (B b).size ≤ 140737488355328 := by rw [size_B]; omega
      have hbz : (B b).size = b.length := size_B b
      have K1 := Lib.hid k1; have K2 := Lib.hid k2
      clear k1 k2 hxL hbd hL
      cases hm : meant b with
      | none =>
        rw [hm] at h1 h2
        have e1 : t = s.extract 0 1 := by rw [← h1, ext1 s h0, h8]
        have e2 : n = 1 := h2.symm
        subst e1 e2
        have j1 : B ((meant (L (B b))).getD []) = B [] := by rw [L_B, hm]; rfl
        have j2 : (meant (L (B b))).isSome = false := by rw [L_B, hm]; rfl
        have J1 := Lib.hid j1; have J2 := Lib.hid j2
        generalize B b = u at hbs hbz J1 J2 K1
        clear j1 j2 hm h1 h2 h8
        go_enter Tryd.func58, Tryd.ntmps58
        go_wp2_with fail
        refine (bodyOf1 w _ _ _ hxs K1.out K2.out).mono ?_
        rintro e w1 ⟨rfl, rfl⟩
        go_wp2_with fail
        refine (denoted1 w _ _ _ ht hbs J1.out J2.out).mono ?_
        rintro e w2 ⟨rfl, hb2⟩
        go_wp2
        go_ret2
        exact ⟨rfl, hb2⟩
      | some x =>
        rw [hm] at h1 h2
        simp only at h1 h2
        subst h1 h2
        have j1 : B ((meant (L (B b))).getD []) = B x := by rw [L_B, hm]; rfl
        have j2 : (meant (L (B b))).isSome = true := by rw [L_B, hm]; rfl
        have J1 := Lib.hid j1; have J2 := Lib.hid j2
        clear j1 j2 hm h8
        generalize B b = u at hbs hbz J1 J2 K1
        go_enter Tryd.func58, Tryd.ntmps58
        go_wp2_with fail
        refine (bodyOf1 w _ _ _ hxs K1.out K2.out).mono ?_
        rintro e w1 ⟨rfl, rfl⟩
        go_wp2_with fail
        refine (denoted1 w _ _ _ ht hbs J1.out J2.out).mono ?_
        rintro e w2 ⟨rfl, hb2⟩
        go_wp2
        go_ret2
        refine ⟨?_, hb2⟩
        simp
        omega
  · have hb : (((s[0].toNat : Int)) == 38) = false := u8_ne (b := 38) h8
    rw [hL, fst_byte _ h8] at h1 h2
    have e1 : t = s.extract 0 1 := by rw [← h1, ext1 s h0]
    have e2 : n = 1 := h2.symm
    subst e1 e2
    clear hL h1 h2 h8
    go_enter Tryd.func58, Tryd.ntmps58
    go_wp2
    go_ret2
    exact ⟨rfl, Below.refl _ _⟩

end Go.Proofs.YtjhhhlomkfnniaaDoor.Re
