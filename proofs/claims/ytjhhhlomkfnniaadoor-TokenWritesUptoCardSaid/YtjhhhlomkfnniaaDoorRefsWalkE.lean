/-
  Walks of stage 3: what a reference's body stands for (refs.denoted, boltingref03.meant), the start of a text (refs.first), a text decoded (refs.Decode, boltingref03.Decode).
-/
import Derived.Test.YtjhhhlomkfnniaaDoorRefsWalkD
namespace Go.Proofs.YtjhhhlomkfnniaaDoor.Re
set_option linter.unusedSimpArgs false
set_option linter.unusedVariables false
open Go.RowKit Ba Rm

theorem meant_rst (l : List UInt8) : meant l = if knd l = 1 then numL 10 (rst l) else if knd l = 2 then numL 16 (rst l) else Rm.look tab (rst l) := by
  unfold meant knd rst
  repeat' split
  all_goals first | rfl | (exfalso; omega) | simp_all
theorem knd_three (l : List UInt8) : knd l = 1 ∨ knd l = 2 ∨ knd l = 0 := by
  unfold knd
  repeat' split
  all_goals simp
theorem rst_len (l : List UInt8) : (rst l).length ≤ l.length := by
  unfold rst
  repeat' split
  all_goals (try rw [List.length_drop]); omega

set_option maxHeartbeats 1000000 in
theorem denoted_any (s : ByteArray) (w : World) (ht : Tab w) (hs : s.size ≤ 140737488355328) :
    Calls Tryd.prog 78 #[.string s] w fun e w' => e = .returned (.tuple #[.string (B ((meant (L s)).getD [])), .bool (meant (L s)).isSome]) ∧ Below w.heap.size w w' := by
  have hm := meant_rst (L s)
  have hr : (B (rst (L s))).size ≤ 140737488355328 := by
    have := rst_len (L s)
    rw [size_L] at this
    rw [size_B]; omega
  have hk := kindOf_any s w hs
  have h3 := knd_three (L s)
  have hL := L_B (rst (L s))
  generalize meant (L s) = M at hm
  generalize B (rst (L s)) = t at hk hr hL
  rw [← hL] at hm
  generalize knd (L s) = K at hm hk h3
  clear hL
  rcases h3 with rfl | rfl | rfl
  · rw [if_pos rfl] at hm
    subst hm
    go_enter Tryd.func78, Tryd.ntmps78
    go_wp2_with fail
    refine hk.mono ?_
    clear hk
    rintro e w1 ⟨rfl, hb1⟩
    go_wp2_with fail
    refine (numbered_any t 10 (.inl rfl) w1 hr).mono ?_
    rintro e w2 ⟨rfl, hb2⟩
    go_wp2
    go_ret2
    exact ⟨rfl, bt hb1 hb2⟩
  · rw [if_neg (by decide), if_pos rfl] at hm
    subst hm
    go_enter Tryd.func78, Tryd.ntmps78
    go_wp2_with fail
    refine hk.mono ?_
    clear hk
    rintro e w1 ⟨rfl, hb1⟩
    go_wp2_with fail
    refine (numbered_any t 16 (.inr rfl) w1 hr).mono ?_
    rintro e w2 ⟨rfl, hb2⟩
    go_wp2
    go_ret2
    exact ⟨rfl, bt hb1 hb2⟩
  · rw [if_neg (by decide), if_neg (by decide)] at hm
    subst hm
    go_enter Tryd.func78, Tryd.ntmps78
    go_wp2_with fail
    refine hk.mono ?_
    clear hk
    rintro e w1 ⟨rfl, hb1⟩
    go_wp2_with fail
    refine (named_any t w1 (ht.below hb1)).mono ?_
    rintro e w2 ⟨rfl, hb2⟩
    go_wp2
    go_ret2
    exact ⟨rfl, bt hb1 hb2⟩

theorem num_parts (base : Int) (s : ByteArray) : (numL base (L s)).isSome = ((val base 0 (L s)).isSome && decide (0 < s.size)) ∧ ∀ t, numL base (L s) = some t → t = code ((val base 0 (L s)).getD 0) := by
  unfold numL
  by_cases h : L s = []
  · have : ¬ 0 < s.size := by rw [← size_L, h]; simp
    simp [h, this]
  · have : 0 < s.size := by rw [← size_L]; exact List.length_pos_iff.2 h
    rw [if_neg h]
    cases val base 0 (L s) with
    | none => simp
    | some n => simp [this]

theorem value1 (w : World) (t : ByteArray) (base : Int) (hbase : base = 10 ∨ base = 16) (hs : t.size ≤ 140737488355328) (n : Int) (ok : Bool) (h1 : (val base 0 (L t)).getD 0 = n) (h2 : ((val base 0 (L t)).isSome && decide (0 < t.size)) = ok) :
    Calls Tryd.prog 88 #[.string t, .int .i64 base] w fun e w' => e = .returned (.tuple #[.int .i64 n, .bool ok]) ∧ w = w' := by
  have k := value_any t base hbase w hs
  rw [h1, h2] at k
  exact k

set_option maxHeartbeats 2000000 in
theorem meant_any (s : ByteArray) (w : World) (hs : s.size ≤ 140737488355328) :
    Calls Tryd.prog 73 #[.string s] w fun e w' => (∃ x, e = .returned (.tuple #[.string x, .bool (meant (L s)).isSome]) ∧ ∀ t, meant (L s) = some t → x = B t) ∧ Below w.heap.size w w' := by
  by_cases h0 : 0 < s.size
  · by_cases h35 : s[0] = 35
    · have hb : (((s[0].toNat : Int)) == 35) = true := by rw [h35]; rfl
      have hh : (L s).head? = some 35 := by rw [head_at, L_at s 0 h0, h35]
      have hz1 : (1 : Int) ≤ s.size := by omega
      have hx1 : (s.extract 1 s.size).size ≤ 140737488355328 := Nat.le_trans (size_extract s 1 s.size) hs
      have hp1 := num_parts 10 (s.extract 1 s.size)
      obtain ⟨n1, hn1⟩ : ∃ n, (val 10 0 (L (s.extract 1 s.size))).getD 0 = n := ⟨_, rfl⟩
      obtain ⟨o1, ho1⟩ : ∃ o, ((val 10 0 (L (s.extract 1 s.size))).isSome && decide (0 < (s.extract 1 s.size).size)) = o := ⟨_, rfl⟩
      rw [hn1, ho1] at hp1
      have HP1 := Lib.hid hp1; have HN1 := Lib.hid hn1; have HO1 := Lib.hid ho1
      clear hp1 hn1 ho1
      by_cases hx : ∃ h1 : 1 < s.size, s[1] = 120 ∨ s[1] = 88
      · obtain ⟨h1, hx⟩ := hx
        have hm : meant (L s) = numL 16 (L (s.extract 2 s.size)) := by
          unfold meant
          rw [if_pos hh, L_at s 1 h1, if_pos (by simpa using hx), L_end]
        rw [hm]
        have hp := num_parts 16 (s.extract 2 s.size)
        obtain ⟨n2, hn2⟩ : ∃ n, (val 16 0 (L (s.extract 2 s.size))).getD 0 = n := ⟨_, rfl⟩
        obtain ⟨o2, ho2⟩ : ∃ o, ((val 16 0 (L (s.extract 2 s.size))).isSome && decide (0 < (s.extract 2 s.size).size)) = o := ⟨_, rfl⟩
        rw [hn2, ho2] at hp
        have HN2 := Lib.hid hn2; have HO2 := Lib.hid ho2
        clear hn2 ho2
        have hx2 : (s.extract 2 s.size).size ≤ 140737488355328 := Nat.le_trans (size_extract s 2 s.size) hs
        have hz2 : (2 : Int) ≤ s.size := by omega
        obtain ⟨q1, q2⟩ := hp
        rw [q1]
        have Q2 := Lib.hid q2
        clear q1 q2 hm hh h35
        rcases hx with hx | hx
        · have hb1 : (((s[1].toNat : Int)) == 120) = true := by rw [hx]; rfl
          clear hx
          go_enter Tryd.func73, Tryd.ntmps73
          go_wp2_with fail
          refine (value1 w _ 10 (.inl rfl) hx1 n1 o1 HN1.out HO1.out).mono ?_
          rintro e w1 ⟨rfl, rfl⟩
          go_wp2_with fail
          refine (value1 w _ 16 (.inr rfl) hx2 n2 o2 HN2.out HO2.out).mono ?_
          rintro e w1 ⟨rfl, rfl⟩
          go_wp2_with fail
          refine (refCode_any _ w).mono ?_
          rintro e w2 ⟨rfl, hb2⟩
          go_wp2
          go_ret2
          exact ⟨⟨_, rfl, fun t e => by rw [Q2.out t e]⟩, hb2⟩
        · have hb1 : (((s[1].toNat : Int)) == 120) = false := by rw [hx]; rfl
          have hb2 : (((s[1].toNat : Int)) == 88) = true := by rw [hx]; rfl
          clear hx
          go_enter Tryd.func73, Tryd.ntmps73
          go_wp2_with fail
          refine (value1 w _ 10 (.inl rfl) hx1 n1 o1 HN1.out HO1.out).mono ?_
          rintro e w1 ⟨rfl, rfl⟩
          go_wp2_with fail
          refine (value1 w _ 16 (.inr rfl) hx2 n2 o2 HN2.out HO2.out).mono ?_
          rintro e w1 ⟨rfl, rfl⟩
          go_wp2_with fail
          refine (refCode_any _ w).mono ?_
          rintro e w2 ⟨rfl, hb2⟩
          go_wp2
          go_ret2
          exact ⟨⟨_, rfl, fun t e => by rw [Q2.out t e]⟩, hb2⟩
      · have hx' : ¬ ((L s)[1]? = some 120 ∨ (L s)[1]? = some 88) := by
          intro e
          by_cases h1 : 1 < s.size
          · rw [L_at s 1 h1] at e
            exact hx ⟨h1, by simpa using e⟩
          · rw [L_far s 1 h1] at e
            simp at e
        have hm : meant (L s) = numL 10 (L (s.extract 1 s.size)) := by
          unfold meant
          rw [if_pos hh, if_neg hx', L_end]
        rw [hm]
        obtain ⟨q1, q2⟩ := HP1.out
        rw [q1]
        have Q2 := Lib.hid q2
        clear q1 q2 hm hh h35 hx'
        by_cases h1 : 1 < s.size
        · have hb1 : (((s[1].toNat : Int)) == 120) = false := u8_ne (b := 120) fun e => hx ⟨h1, .inl e⟩
          have hb2 : (((s[1].toNat : Int)) == 88) = false := u8_ne (b := 88) fun e => hx ⟨h1, .inr e⟩
          clear hx
          go_enter Tryd.func73, Tryd.ntmps73
          go_wp2_with fail
          refine (value1 w _ 10 (.inl rfl) hx1 n1 o1 HN1.out HO1.out).mono ?_
          rintro e w1 ⟨rfl, rfl⟩
          go_wp2_with fail
          refine (refCode_any _ w).mono ?_
          rintro e w2 ⟨rfl, hb2⟩
          go_wp2
          go_ret2
          exact ⟨⟨_, rfl, fun t e => by rw [Q2.out t e]⟩, hb2⟩
        · clear hx
          go_enter Tryd.func73, Tryd.ntmps73
          go_wp2_with fail
          refine (value1 w _ 10 (.inl rfl) hx1 n1 o1 HN1.out HO1.out).mono ?_
          rintro e w1 ⟨rfl, rfl⟩
          go_wp2_with fail
          refine (refCode_any _ w).mono ?_
          rintro e w2 ⟨rfl, hb2⟩
          go_wp2
          go_ret2
          exact ⟨⟨_, rfl, fun t e => by rw [Q2.out t e]⟩, hb2⟩
    · have hb : (((s[0].toNat : Int)) == 35) = false := u8_ne (b := 35) h35
      have hh : ¬ (L s).head? = some 35 := by rw [head_at, L_at s 0 h0]; simpa using h35
      have hm : meant (L s) = Rm.look tab (L s) := by
        unfold meant
        rw [if_neg hh]
      rw [hm]
      clear hm hh h35
      go_enter Tryd.func73, Tryd.ntmps73
      go_wp2_with fail
      refine (refNamed_any s w).mono ?_
      rintro e w2 ⟨rfl, hb2⟩
      go_wp2
      go_ret2
      exact ⟨⟨_, rfl, fun t e => by rw [e]; rfl⟩, hb2⟩
  · have hL : L s = [] := List.eq_nil_of_length_eq_zero (by rw [size_L]; omega)
    have hm : meant (L s) = Rm.look tab (L s) := by
      unfold meant
      rw [hL]; rfl
    rw [hm]
    clear hm hL
    go_enter Tryd.func73, Tryd.ntmps73
    go_wp2_with fail
    refine (refNamed_any s w).mono ?_
    rintro e w2 ⟨rfl, hb2⟩
    go_wp2
    go_ret2
    exact ⟨⟨_, rfl, fun t e => by rw [e]; rfl⟩, hb2⟩

end Go.Proofs.YtjhhhlomkfnniaaDoor.Re
