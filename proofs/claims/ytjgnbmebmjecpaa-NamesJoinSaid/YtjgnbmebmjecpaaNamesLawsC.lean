/-
  Walks of stage 5's law NamesJoin: it returns true.
-/
import Derived.Test.YtjgnbmebmjecpaaNamesLawsA
namespace Go.Proofs.Ytjgnbmebmjecpaa.Na
set_option linter.unusedSimpArgs false
set_option linter.unusedVariables false
open Go.RowKit Ba Fm Fo Nm Sm

set_option maxRecDepth 100000 in
set_option maxHeartbeats 8000000 in
theorem law_join (a b : ByteArray) (n : Int) (ha : a.size ≤ 140737488351232) (hb : b.size ≤ 140737488351232) (hn : (Lit.int .i64 n).wf = true) (w : World) :
    Calls Try.prog 7 #[.string a, .string b, .int .i64 n] w fun e w' => e = .returned (.bool true) ∧ Below w.heap.size w w' := by
  obtain ⟨k1, hk1, hk2, -, hmin⟩ := min_any a.size 200 200 rfl w
  obtain ⟨k2, hk3, hk4, -, hmin2⟩ := min_any b.size 200 200 rfl w
  obtain ⟨u, hu⟩ : ∃ u, a.extract 0 k1 = u := ⟨_, rfl⟩
  obtain ⟨v, hv⟩ : ∃ u, b.extract 0 k2 = u := ⟨_, rfl⟩
  have hus : u.size = k1 := by rw [← hu]; exact size_take a k1 hk1
  have hvs : v.size = k2 := by rw [← hv]; exact size_take b k2 hk3
  obtain ⟨x, hx1, hx2⟩ := and_small n 65535 16 (by decide) (by decide)
  rw [show ((65535 : Nat) : Int) = 65535 from rfl] at hx2
  rw [show 2 ^ 16 = 65536 from rfl] at hx1
  obtain ⟨k, hk⟩ : ∃ k : Nat, k = x % (k1 + 1) := ⟨_, rfl⟩
  have hkk : (x : Int) % ((k1 : Int) + 1) = k := by rw [hk]; first | rfl | (push_cast; rfl)
  have hkl : k ≤ k1 := by rw [hk]; have := Nat.mod_lt x (show 0 < k1 + 1 by omega); omega
  have HU := Lib.hid hu; have HV := Lib.hid hv; have HUS := Lib.hid hus; have HVS := Lib.hid hvs
  have hm1 : min k1 a.size = k1 := by omega
  clear hu hv hus hvs hk hn
  go_enter Try.func7, Try.ntmps7
  go_wp2_with fail
  rw [HU.out, HV.out, hkk]
  have zu : u.size ≤ 140737488355328 := by have := HUS.out; omega
  have zv : v.size ≤ 140737488355328 := by have := HVS.out; omega
  have zuv : (u ++ v).size ≤ 140737488355328 := by have := HUS.out; have := HVS.out; rw [size_append]; omega
  have zk : (u.extract 0 k).size ≤ 140737488355328 := by have := size_extract u 0 k; omega
  have hku : k ≤ u.size := by have := HUS.out; omega
  have zs : u.size + v.size ≤ 1000 := by have := HUS.out; have := HVS.out; omega
  clear hmin hmin2 hkk hx1 hx2 HU HV HUS HVS hm1 hkl ha hb hk1 hk2 hk3 hk4
  obtain ⟨qa, h1⟩ : ∃ q, attrB u = q := ⟨_, rfl⟩
  obtain ⟨qb, h2⟩ : ∃ q, attrB v = q := ⟨_, rfl⟩
  obtain ⟨qab, h3⟩ : ∃ q, attrB (u ++ v) = q := ⟨_, rfl⟩
  obtain ⟨ra, h4⟩ : ∃ q, rightB u = q := ⟨_, rfl⟩
  obtain ⟨rab, h5⟩ : ∃ q, rightB (u ++ v) = q := ⟨_, rfl⟩
  obtain ⟨ak, h6⟩ : ∃ q, attrB (u.extract 0 k) = q := ⟨_, rfl⟩
  obtain ⟨rk, h7⟩ : ∃ q, rightB (u.extract 0 k) = q := ⟨_, rfl⟩
  obtain ⟨kz, h8⟩ : ∃ q, ((k : Int) == 0) = q := ⟨_, rfl⟩
  have i1 : qa = true → qb = true → qab = true := fun p q => by rw [← h3]; exact attr_append (h1.trans p) (h2.trans q)
  have i2 : ra = true → qb = true → rab = true := fun p q => by rw [← h5]; exact right_append (h4.trans p) (h2.trans q)
  have hk0 : kz = false → 0 < k := fun p => by
    rcases Nat.eq_zero_or_pos k with e | e
    · subst e; rw [p] at h8; cases h8
    · exact e
  have i3 : qa = true → kz = false → ak = true := fun p q => by rw [← h6]; exact attr_cut (h1.trans p) k (hk0 q)
  have i4 : ra = true → kz = false → rk = true := fun p q => by rw [← h7]; exact right_cut (h4.trans p) k (hk0 q)
  have H1 := Lib.hid h1; have H2 := Lib.hid h2; have H3 := Lib.hid h3; have H4 := Lib.hid h4; have H5 := Lib.hid h5; have H6 := Lib.hid h6; have H7 := Lib.hid h7
  clear h1 h2 h3 h4 h5 h6 h7 hk0
  cases qa <;> cases qb <;> cases ra <;> cases kz
  all_goals
    try obtain rfl := i1 rfl rfl
    try obtain rfl := i2 rfl rfl
    try obtain rfl := i3 rfl rfl
    try obtain rfl := i4 rfl rfl
    clear i1 i2 i3 i4
    refine (attr1 w u _ zu H1.out).mono ?_
    rintro e w1 ⟨rfl, rfl⟩
    go_wp2_with (first
      | (go_at_call 10; refine (fixed_any _).mono ?_; rintro e w10 ⟨rfl, hb10⟩)
      | (go_at_call 30; (with_reducible refine (attr1 _ v _ zv H2.out).mono ?_); rintro e w1 ⟨rfl, rfl⟩)
      | (go_at_call 30; (with_reducible refine (attr1 _ u _ zu H1.out).mono ?_); rintro e w1 ⟨rfl, rfl⟩)
      | (go_at_call 30; (with_reducible refine (attr1 _ (u ++ v) _ zuv H3.out).mono ?_); rintro e w1 ⟨rfl, rfl⟩)
      | (go_at_call 30; (with_reducible refine (attr1 _ (u.extract 0 k) _ zk H6.out).mono ?_); rintro e w1 ⟨rfl, rfl⟩)
      | (go_at_call 28; (with_reducible refine (right1 _ u _ zu H4.out).mono ?_); rintro e w1 ⟨rfl, rfl⟩)
      | (go_at_call 28; (with_reducible refine (right1 _ (u ++ v) _ zuv H5.out).mono ?_); rintro e w1 ⟨rfl, rfl⟩)
      | (go_at_call 28; (with_reducible refine (right1 _ (u.extract 0 k) _ zk H7.out).mono ?_); rintro e w1 ⟨rfl, rfl⟩))
    go_ret
    exact ⟨rfl, hb10⟩

end Go.Proofs.Ytjgnbmebmjecpaa.Na
