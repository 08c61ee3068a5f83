/-
  Walks of stage 3: refs.Code, boltingref03's Char and Code, the digits, has, end, bodyOf, kindOf.
-/
import Derived.Test.YtjhhhlomkfnniaaDoorBytes
import Derived.Test.YtjhhhlomkfnniaaDoorRefsMath
namespace Go.Proofs.YtjhhhlomkfnniaaDoor.Re
set_option linter.unusedSimpArgs false
set_option linter.unusedVariables false
open Go.RowKit Ba Rm

theorem str_of (w : World) (l : List UInt8) (k : Nat) (hk : k = l.length) : (convert 51 9 (.slice (some ⟨w.heap.size, 0, none⟩) k k)).run Tryd.prog (w.alloc (.cells (l.map bc).toArray 5)) = .ok (.string (B l)) (w.alloc (.cells (l.map bc).toArray 5)) := by
  subst hk
  refine run_convert_bytes_back _ _ _ _ ⟨w.heap.size, 0, none⟩ l.length l Tryd.underlying51 Tryd.underlying5 Tryd.underlying9 fun j hj => ?_
  rw [WideShapes.add_plain]
  rw [World.cell?_alloc_mark]
  simp [bc, hj]

theorem bc_of (m : Nat) (h : m < 256) (x : Int) (hx : x = m) : Value.int .u8 x = bc (UInt8.ofNat m) := by
  unfold bc
  rw [hx, UInt8.toNat_ofNat', Nat.mod_eq_of_lt h]
theorem str_at (w : World) (l : List UInt8) (cs : Array Value) (k : Nat) (hk : k = l.length) (hc : cs = (l.map bc).toArray) : (convert 51 9 (.slice (some ⟨w.heap.size, 0, none⟩) k k)).run Tryd.prog (w.alloc (.cells cs 5)) = .ok (.string (B l)) (w.alloc (.cells cs 5)) := by
  rw [hc]
  exact str_of w l k hk
theorem below_new (w : World) (o : Obj) : Below w.heap.size w (w.alloc o) := (Below.refl _ _).alloc (Nat.le_refl _) _

set_option maxRecDepth 100000 in
theorem char1 (n : Nat) (h : n < 128) (w : World) : Calls Tryd.prog 100 #[.int .i64 n] w fun e w' => e = .returned (.string (B (enc n))) ∧ Below w.heap.size w w' := by
  have hcv := str_at w (enc n) #[.int .u8 (n : Int)] 1 (by simp [enc, h]) (by rw [bc_of n (by omega) n rfl]; simp [enc, h])
  go_enter Tryd.func100, Tryd.ntmps100
  go_wp2
  go_ret
  exact ⟨rfl, below_new _ _⟩
set_option maxRecDepth 100000 in
theorem char2 (n : Nat) (h0 : ¬ n < 128) (h : n < 2048) (w : World) : Calls Tryd.prog 100 #[.int .i64 n] w fun e w' => e = .returned (.string (B (enc n))) ∧ Below w.heap.size w w' := by
  have hcv := str_at w (enc n) #[.int .u8 (192 + (n : Int) / 64), .int .u8 (128 + (n : Int) % 64)] 2 (by simp [enc, h0, h]) (by rw [bc_of (192 + n / 64) (by omega) _ (by omega), bc_of (128 + n % 64) (by omega) _ (by omega)]; simp [enc, h0, h])
  go_enter Tryd.func100, Tryd.ntmps100
  go_wp2
  go_ret
  exact ⟨rfl, below_new _ _⟩
set_option maxRecDepth 100000 in
set_option maxHeartbeats 400000 in
theorem char3 (n : Nat) (h0 : ¬ n < 128) (h1 : ¬ n < 2048) (h : n < 65536) (w : World) : Calls Tryd.prog 100 #[.int .i64 n] w fun e w' => e = .returned (.string (B (enc n))) ∧ Below w.heap.size w w' := by
  obtain ⟨a, ha⟩ : ∃ a : Nat, (n : Int) / 64 = a := ⟨n / 64, by omega⟩
  have hcv := str_at w (enc n) #[.int .u8 (224 + (n : Int) / 4096), .int .u8 (128 + (a : Int) % 64), .int .u8 (128 + (n : Int) % 64)] 3 (by simp [enc, h0, h1, h]) (by rw [bc_of (224 + n / 4096) (by omega) _ (by omega), bc_of (128 + n / 64 % 64) (by omega) _ (by omega), bc_of (128 + n % 64) (by omega) _ (by omega)]; simp [enc, h0, h1, h])
  have k0 : ¬ (n : Int) < 128 := by omega
  have k1 : ¬ (n : Int) < 2048 := by omega
  have k2 : (n : Int) < 65536 := by omega
  clear h0 h1 h
  go_enter Tryd.func100, Tryd.ntmps100
  go_wp2
  go_ret
  exact ⟨rfl, below_new _ _⟩
set_option maxRecDepth 100000 in
set_option maxHeartbeats 400000 in
theorem char4 (n : Nat) (h0 : ¬ n < 128) (h1 : ¬ n < 2048) (h2 : ¬ n < 65536) (h : n < 1114112) (w : World) : Calls Tryd.prog 100 #[.int .i64 n] w fun e w' => e = .returned (.string (B (enc n))) ∧ Below w.heap.size w w' := by
  obtain ⟨a, ha⟩ : ∃ a : Nat, (n : Int) / 64 = a := ⟨n / 64, by omega⟩
  obtain ⟨b, hb⟩ : ∃ b : Nat, (n : Int) / 4096 = b := ⟨n / 4096, by omega⟩
  have hcv := str_at w (enc n) #[.int .u8 (240 + (n : Int) / 262144), .int .u8 (128 + (b : Int) % 64), .int .u8 (128 + (a : Int) % 64), .int .u8 (128 + (n : Int) % 64)] 4 (by simp [enc, h0, h1, h2]) (by rw [bc_of (240 + n / 262144) (by omega) _ (by omega), bc_of (128 + n / 4096 % 64) (by omega) _ (by omega), bc_of (128 + n / 64 % 64) (by omega) _ (by omega), bc_of (128 + n % 64) (by omega) _ (by omega)]; simp [enc, h0, h1, h2])
  have k0 : ¬ (n : Int) < 128 := by omega
  have k1 : ¬ (n : Int) < 2048 := by omega
  have k2 : ¬ (n : Int) < 65536 := by omega
  have k3 : (n : Int) < 1114112 := by omega
  clear h0 h1 h2 h
  go_enter Tryd.func100, Tryd.ntmps100
  go_wp2
  go_ret
  exact ⟨rfl, below_new _ _⟩
theorem char_any (n : Nat) (h : n < 1114112) (w : World) : Calls Tryd.prog 100 #[.int .i64 n] w fun e w' => e = .returned (.string (B (enc n))) ∧ Below w.heap.size w w' := by
  by_cases h0 : n < 128
  · exact char1 n h0 w
  by_cases h1 : n < 2048
  · exact char2 n h0 h1 w
  by_cases h2 : n < 65536
  · exact char3 n h0 h1 h2 w
  · exact char4 n h0 h1 h2 h w

theorem refCode_any (n : Int) (w : World) : Calls Tryd.prog 89 #[.int .i64 n] w fun e w' => e = .returned (.string (B (code n))) ∧ Below w.heap.size w w' := by
  by_cases hb : n < 1 ∨ 1114111 < n ∨ (55296 ≤ n ∧ n ≤ 57343)
  · have hc : code n = enc 65533 := by
      have : bad n = true := by unfold bad; rcases hb with h | h | ⟨h1, h2⟩ <;> simp [*]
      unfold code
      rw [if_pos this]
      decide
    rw [hc]
    rcases hb with h | h | ⟨h1, h2⟩
    all_goals
      go_enter Tryd.func89, Tryd.ntmps89
      go_wp2_with fail
      refine (char_any 65533 (by omega) w).mono ?_
      rintro e w1 ⟨rfl, hb1⟩
      go_wp2
      go_ret
      exact ⟨rfl, hb1⟩
  · have hbad : bad n = false := by
      unfold bad
      simp only [Bool.or_eq_false_iff, decide_eq_false_iff_not, Bool.and_eq_false_iff]
      omega
    by_cases h13 : n = 13
    · subst h13
      go_enter Tryd.func89, Tryd.ntmps89
      go_wp2_with fail
      refine (char_any 10 (by omega) w).mono ?_
      rintro e w1 ⟨rfl, hb1⟩
      go_wp2
      go_ret
      exact ⟨rfl, hb1⟩
    · obtain ⟨m, rfl⟩ : ∃ m : Nat, n = m := ⟨n.toNat, by omega⟩
      have hc : code m = enc m := by
        unfold code
        rw [hbad, if_neg (by simp), if_neg h13]
        rfl
      rw [hc]
      clear hc hbad
      have h1 : ¬ (m : Int) < 1 := by omega
      have h2 : ¬ 1114111 < (m : Int) := by omega
      by_cases h3 : 55296 ≤ (m : Int)
      · have h4 : ¬ (m : Int) ≤ 57343 := by omega
        clear hb
        go_enter Tryd.func89, Tryd.ntmps89
        go_wp2_with fail
        refine (char_any m (by omega) w).mono ?_
        rintro e w1 ⟨rfl, hb1⟩
        go_wp2
        go_ret
        exact ⟨rfl, hb1⟩
      · clear hb
        go_enter Tryd.func89, Tryd.ntmps89
        go_wp2_with fail
        refine (char_any m (by omega) w).mono ?_
        rintro e w1 ⟨rfl, hb1⟩
        go_wp2
        go_ret
        exact ⟨rfl, hb1⟩

theorem valid_of (m : Nat) (h : m < 1114112) (hs : ¬ (55296 ≤ m ∧ m ≤ 57343)) : Utf8.valid (m : Int) = true := by
  unfold Utf8.valid
  simp only [Bool.or_eq_true, Bool.and_eq_true, decide_eq_true_eq]
  omega
theorem enc_eq (m : Nat) (h : m < 1114112) (hs : ¬ (55296 ≤ m ∧ m ≤ 57343)) : Utf8.encode (m : Int) = B (enc m) := by
  have hv := valid_of m h hs
  unfold Utf8.encode enc
  rw [hv]
  simp only [if_true, Int.toNat_natCast]
  clear hv h hs
  by_cases h0 : m < 128
  · rw [if_pos h0, if_pos h0]; rfl
  by_cases h1 : m < 2048
  · rw [if_neg h0, if_pos h1, if_neg h0, if_pos h1]; rfl
  by_cases h2 : m < 65536
  · rw [if_neg h0, if_neg h1, if_pos h2, if_neg h0, if_neg h1, if_pos h2]; rfl
  · rw [if_neg h0, if_neg h1, if_neg h2, if_neg h0, if_neg h1, if_neg h2]; rfl

theorem code_any (n : Int) (w : World) (hn : (Lit.int .i64 n).wf = true) : Calls Tryd.prog 104 #[.int .i64 n] w fun e w' => e = .returned (.string (B (code n))) ∧ w = w' := by
  by_cases hb : n < 1 ∨ 1114111 < n ∨ (55296 ≤ n ∧ n ≤ 57343)
  · have hc : code n = [239, 191, 189] := by
      have : bad n = true := by unfold bad; rcases hb with h | h | ⟨h1, h2⟩ <;> simp [*]
      unfold code
      rw [if_pos this]
    rw [hc]
    rcases hb with h | h | ⟨h1, h2⟩
    all_goals
      go_enter Tryd.func104, Tryd.ntmps104
      go_wp2
      go_ret
      exact ⟨rfl, rfl⟩
  · have hbad : bad n = false := by
      unfold bad
      simp only [Bool.or_eq_false_iff, decide_eq_false_iff_not, Bool.and_eq_false_iff]
      omega
    by_cases h13 : n = 13
    · subst h13
      go_enter Tryd.func104, Tryd.ntmps104
      go_wp2
      go_ret
      exact ⟨rfl, rfl⟩
    · obtain ⟨m, rfl⟩ : ∃ m : Nat, n = m := ⟨n.toNat, by omega⟩
      have hc : code m = enc m := by
        unfold code
        rw [hbad, if_neg (by simp), if_neg h13]
        rfl
      rw [hc, ← enc_eq m (by omega) (by omega)]
      clear hc hbad hn
      have h1 : ¬ (m : Int) < 1 := by omega
      have h2 : ¬ 1114111 < (m : Int) := by omega
      by_cases h3 : 55296 ≤ (m : Int)
      · have h4 : ¬ (m : Int) ≤ 57343 := by omega
        clear hb
        go_enter Tryd.func104, Tryd.ntmps104
        go_wp2
        go_ret
        exact ⟨rfl, rfl⟩
      · clear hb
        go_enter Tryd.func104, Tryd.ntmps104
        go_wp2
        go_ret
        exact ⟨rfl, rfl⟩

end Go.Proofs.YtjhhhlomkfnniaaDoor.Re
