/-
  Plain mathematics of stage 3: what digits come to; references by a number.
-/
import Derived.Test.YtbcfidepepbjhaaDoorRefsMath
namespace Go.Proofs.YtbcfidepepbjhaaDoor.Rm

/-- What digits of a base come to, whole. -/
def dv (base : Int) : Int → List UInt8 → Int
  | n, [] => n
  | n, c :: r => dv base (n * base + dig c) r
def digs (base : Int) (l : List UInt8) : Prop := ∀ c ∈ l, 0 ≤ dig c ∧ dig c < base
theorem cap {n d base : Int} (hb : base = 10 ∨ base = 16) (_hn : 0 ≤ n) (hd : 0 ≤ d) : min (min n 1114112 * base + d) 1114112 = min (n * base + d) 1114112 := by
  rcases hb with rfl | rfl <;> omega
theorem mul_pos' {n base : Int} (hb : base = 10 ∨ base = 16) (hn : 0 ≤ n) : 0 ≤ n * base := by
  rcases hb with rfl | rfl <;> omega
theorem val_dv {base : Int} (hb : base = 10 ∨ base = 16) {l : List UInt8} (h : digs base l) : ∀ n, 0 ≤ n → val base (min n 1114112) l = some (min (dv base n l) 1114112) := by
  induction l with
  | nil => intro n _; rfl
  | cons c r ih =>
    intro n hn
    have hc := h c List.mem_cons_self
    have hp := mul_pos' hb hn
    rw [val, if_neg (by omega), cap hb hn hc.1, ih (fun x hx => h x (List.mem_cons_of_mem _ hx)) _ (by omega), dv]
theorem dv_pow (base : Int) (l : List UInt8) : ∀ n, dv base n l = n * base ^ l.length + dv base 0 l := by
  induction l with
  | nil => intro n; simp [dv]
  | cons c r ih =>
    intro n
    rw [dv, dv, ih (n * base + dig c), ih (0 * base + dig c), List.length_cons, Int.pow_succ, Int.add_mul, Int.zero_mul, Int.zero_add, Int.mul_assoc, Int.mul_comm base (base ^ r.length)]
    omega
theorem dv_cons (base : Int) (c : UInt8) (l : List UInt8) : dv base 0 (c :: l) = dig c * base ^ l.length + dv base 0 l := by
  rw [dv, Int.zero_mul, Int.zero_add, dv_pow]
theorem dv_zero (base : Int) (l : List UInt8) : dv base 0 (48 :: l) = dv base 0 l := by
  rw [dv_cons, show dig 48 = 0 from rfl, Int.zero_mul, Int.zero_add]
theorem dv_append (base : Int) (a b : List UInt8) : ∀ n, dv base n (a ++ b) = dv base (dv base n a) b := by
  induction a with
  | nil => intro n; rfl
  | cons c r ih => intro n; exact ih _
theorem dv_nonneg {base : Int} (hb : base = 10 ∨ base = 16) {l : List UInt8} (h : digs base l) : ∀ n, 0 ≤ n → n ≤ dv base n l := by
  induction l with
  | nil => intro n _; exact Int.le_refl _
  | cons c r ih =>
    intro n hn
    have hc := h c List.mem_cons_self
    have hp : n ≤ n * base := by rcases hb with rfl | rfl <;> omega
    have := ih (fun x hx => h x (List.mem_cons_of_mem _ hx)) (n * base + dig c) (by omega)
    rw [dv]
    omega
theorem numL_dv {base : Int} (hb : base = 10 ∨ base = 16) {l : List UInt8} (h : digs base l) (hl : l ≠ []) : numL base l = some (code (dv base 0 l)) := by
  unfold numL
  have hv := val_dv hb h 0 (Int.le_refl _)
  rw [show min (0 : Int) 1114112 = 0 from rfl] at hv
  rw [if_neg hl, hv, Option.map_some, code_min]
theorem digs_no {base : Int} {l : List UInt8} (h : digs base l) {c : UInt8} (hc : dig c < 0) : c ∉ l := fun e => by
  have := h c e
  omega
theorem meant_ten {l : List UInt8} (h : digs 10 l) (hl : l ≠ []) : meant (35 :: l) = some (code (dv 10 0 l)) := by
  unfold meant
  rw [if_pos (List.head?_cons)]
  cases l with
  | nil => exact absurd rfl hl
  | cons c r =>
    have hc : c ≠ 120 ∧ c ≠ 88 := ⟨fun e => digs_no h (c := 120) (by decide) (by rw [← e]; exact List.mem_cons_self), fun e => digs_no h (c := 88) (by decide) (by rw [← e]; exact List.mem_cons_self)⟩
    rw [if_neg (by simp [hc.1, hc.2])]
    exact numL_dv (.inl rfl) h hl
theorem meant_six {l : List UInt8} (h : digs 16 l) (hl : l ≠ []) : meant (35 :: 120 :: l) = some (code (dv 16 0 l)) := by
  unfold meant
  rw [if_pos (List.head?_cons), if_pos (.inl rfl)]
  exact numL_dv (.inr rfl) h hl
theorem dec_ten {l : List UInt8} (h : digs 10 l) (hl : l ≠ []) : dec (38 :: 35 :: (l ++ [59])) = code (dv 10 0 l) := by
  have hb : (59 : UInt8) ∉ 35 :: l := fun e => by
    rcases List.mem_cons.1 e with e | e
    · exact absurd e (by decide)
    · exact digs_no h (by decide) e
  refine (dec_ref (b := 35 :: l) [] hb (meant_ten h hl)).trans ?_
  rw [dec_nil, List.append_nil]
theorem dec_six {l : List UInt8} (h : digs 16 l) (hl : l ≠ []) : dec (38 :: 35 :: 120 :: (l ++ [59])) = code (dv 16 0 l) := by
  have hb : (59 : UInt8) ∉ 35 :: 120 :: l := fun e => by
    rcases List.mem_cons.1 e with e | e
    · exact absurd e (by decide)
    rcases List.mem_cons.1 e with e | e
    · exact absurd e (by decide)
    · exact digs_no h (by decide) e
  refine (dec_ref (b := 35 :: 120 :: l) [] hb (meant_six h hl)).trans ?_
  rw [dec_nil, List.append_nil]
theorem dec_open {l : List UInt8} (h : digs 10 l) : dec (38 :: 35 :: l) = 38 :: 35 :: l := by
  refine dec_noend _ fun e => ?_
  rcases List.mem_cons.1 e with e | e
  · exact absurd e (by decide)
  rcases List.mem_cons.1 e with e | e
  · exact absurd e (by decide)
  · exact digs_no h (by decide) e
def zeros18 : List UInt8 := [48, 48, 48, 48, 48, 48, 48, 48, 48, 48, 48, 48, 48, 48, 48, 48, 48, 48]
theorem dec_huge {l : List UInt8} (h : digs 10 l) : dec (38 :: 35 :: ((57 :: l ++ zeros18) ++ [59])) = code (-1) := by
  have hz : digs 10 zeros18 := by
    intro c hc
    have : c = 48 := by
      simp only [zeros18, List.mem_cons, List.not_mem_nil, or_false, or_self] at hc
      exact hc
    rw [this]; decide
  have hd : digs 10 (57 :: l ++ zeros18) := by
    intro c hc
    rcases List.mem_append.1 hc with e | e
    · rcases List.mem_cons.1 e with e | e
      · rw [e]; decide
      · exact h c e
    · exact hz c e
  rw [dec_ten hd (by simp)]
  have h9 : (9 : Int) ≤ dv 10 0 (57 :: l) := dv_nonneg (.inl rfl) h 9 (by decide)
  have hbig : 1114111 < dv 10 0 (57 :: l ++ zeros18) := by
    rw [dv_append, dv_pow 10 zeros18]
    have e : (10 : Int) ^ zeros18.length = 1000000000000000000 := by decide
    have e0 : dv 10 0 zeros18 = 0 := by decide
    rw [e, e0]
    omega
  rw [code_big _ hbig]
  decide
/-- One digit more, ahead. -/
theorem digs_cons {base : Int} {c : UInt8} {l : List UInt8} (hc : 0 ≤ dig c ∧ dig c < base) (h : digs base l) : digs base (c :: l) := fun x hx => by
  rcases List.mem_cons.1 hx with e | e
  · rw [e]; exact hc
  · exact h x e
theorem dv_more {b m : Nat} {c : UInt8} {l : List UInt8} (hc : dig c = ((m / b ^ l.length % b : Nat) : Int)) (h : dv (b : Int) 0 l = ((m % b ^ l.length : Nat) : Int)) : dv (b : Int) 0 (c :: l) = ((m % b ^ (l.length + 1) : Nat) : Int) := by
  rw [dv_cons, hc, h, Nat.mod_pow_succ]
  simp only [Int.natCast_add, Int.natCast_mul, Int.natCast_pow]
  rw [Int.mul_comm, Int.add_comm]
theorem dig_ten (d : Nat) : dig (UInt8.ofNat (48 + d % 10)) = ((d % 10 : Nat) : Int) := by
  have h : d % 10 < 10 := Nat.mod_lt _ (by decide)
  generalize d % 10 = x at h
  have : ∀ x : Fin 10, dig (UInt8.ofNat (48 + x.1)) = (x.1 : Int) := by decide
  exact this ⟨x, h⟩
def hexs : List UInt8 := [48, 49, 50, 51, 52, 53, 54, 55, 56, 57, 97, 98, 99, 100, 101, 102]
def hex (d : Nat) : UInt8 := hexs.getD (d % 16) 48
theorem dig_hex (d : Nat) : dig (hex d) = ((d % 16 : Nat) : Int) := by
  unfold hex
  have h : d % 16 < 16 := Nat.mod_lt _ (by decide)
  generalize d % 16 = x at h
  have : ∀ x : Fin 16, dig (hexs.getD x.1 48) = (x.1 : Int) := by decide
  exact this ⟨x, h⟩

end Go.Proofs.YtbcfidepepbjhaaDoor.Rm
