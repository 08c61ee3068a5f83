/-
  Plain mathematics on bytes as characters: what one step of a division finds at the head of a list of bytes, and what is made of it (decoded, right, counted, sampled, lines). It speaks of no program.
-/
import Derived.Laws.RangeAny
namespace Go.Proofs.Ytadhgngeonkfcaa.Ch

def at' (l : List UInt8) (k : Nat) : Nat := (l.getD k 0).toNat

def inn (l : List UInt8) (k lo hi : Nat) : Bool := decide (k < l.length) && (decide (lo ≤ at' l k) && decide (at' l k ≤ hi))

def low (c : Nat) : Nat := if c = 0xe0 then 0xa0 else if c = 0xf0 then 0x90 else 128
def high (c : Nat) : Nat := if c = 0xed then 0x9f else if c = 0xf4 then 0x8f else 191

/-- How many bytes the character at the head has; 0: the byte is wrong. -/
def sz (l : List UInt8) : Nat :=
  if at' l 0 < 128 then 1
  else if (decide (0xc2 ≤ at' l 0) && decide (at' l 0 ≤ 0xdf)) && inn l 1 128 191 then 2
  else if !inn l 1 (low (at' l 0)) (high (at' l 0)) || !inn l 2 128 191 then 0
  else if decide (0xe0 ≤ at' l 0) && decide (at' l 0 ≤ 0xef) then 3
  else if (decide (0xf0 ≤ at' l 0) && decide (at' l 0 ≤ 0xf4)) && inn l 3 128 191 then 4
  else 0

def cont (l : List UInt8) (k : Nat) : Bool := decide (k < l.length) && (at' l k / 64 == 2)

def dec (l : List UInt8) : Nat × Nat :=
  let b0 := at' l 0
  if b0 < 0x80 then (b0, 1)
  else if b0 / 32 == 6 && cont l 1 then
    let c := (b0 % 32) * 64 + at' l 1 % 64
    if c ≥ 0x80 then (c, 2) else (Utf8.runeError, 1)
  else if b0 / 16 == 14 && cont l 1 && cont l 2 then
    let c := (b0 % 16) * 4096 + (at' l 1 % 64) * 64 + at' l 2 % 64
    if c ≥ 0x800 && Utf8.valid c then (c, 3) else (Utf8.runeError, 1)
  else if b0 / 8 == 30 && cont l 1 && cont l 2 && cont l 3 then
    let c := (b0 % 8) * 262144 + (at' l 1 % 64) * 4096 + (at' l 2 % 64) * 64 + at' l 3 % 64
    if c ≥ 0x10000 && Utf8.valid c then (c, 4) else (Utf8.runeError, 1)
  else (Utf8.runeError, 1)

theorem get_eq (s : ByteArray) (i k : Nat) : (s.get! (i + k)).toNat = at' (s.data.toList.drop i) k := by
  have h : s.get! (i + k) = (s.data.toList.drop i).getD k 0 := by
    rw [List.getD_eq_getElem?_getD, List.getElem?_drop]
    simp [ByteArray.get!, Array.getElem!_eq_getD]
    rfl
  rw [h]; rfl

theorem cont_eq (s : ByteArray) (i k : Nat) : (decide (i + k < s.size) && ((s.get! (i + k)).toNat / 64 == 2)) = cont (s.data.toList.drop i) k := by
  rw [get_eq, cont]
  congr 1
  have : s.size = s.data.toList.length := by rw [Array.length_toList]; rfl
  rw [Bool.eq_iff_iff]
  simp only [decide_eq_true_iff, List.length_drop]
  omega

theorem decode_eq (s : ByteArray) (i : Nat) : Utf8.decode s i = dec (s.data.toList.drop i) := by
  have c1 := cont_eq s i 1
  have c2 := cont_eq s i 2
  have c3 := cont_eq s i 3
  have g0 := get_eq s i 0
  have g1 := get_eq s i 1
  have g2 := get_eq s i 2
  have g3 := get_eq s i 3
  unfold Utf8.decode dec
  dsimp only
  simp only [c1, c2, c3]
  simp only [g0, g1, g2, g3]

structure Good (c : List UInt8) (r : Nat) : Prop where
  dec : ∀ m, dec (c ++ m) = (r, c.length)
  sz : ∀ m, sz (c ++ m) = c.length
  enc : (Utf8.encode (r : Int)).data.toList = c
  pos : 0 < c.length
  le4 : c.length ≤ 4
  zero : r = 0 ↔ c = [0]
  rle : r ≤ 0x10FFFF
  shape : (∃ a, c = [a] ∧ a.toNat < 128) ∨ ∀ b ∈ c, 128 ≤ b.toNat

theorem u8_ext {a b : UInt8} (h : a.toNat = b.toNat) : a = b := UInt8.toNat_inj.mp h
theorem ofNat_eq (a : UInt8) (n : Nat) (h : n = a.toNat) : UInt8.ofNat n = a := by
  apply u8_ext; rw [h]; simp

theorem valid_of (c : Nat) (h : c < 0xD800 ∨ (0xE000 ≤ c ∧ c ≤ 0x10FFFF)) : Utf8.valid (c : Int) = true := by
  unfold Utf8.valid
  rw [Bool.or_eq_true, Bool.and_eq_true, Bool.and_eq_true, decide_eq_true_iff, decide_eq_true_iff, decide_eq_true_iff, decide_eq_true_iff]
  omega

theorem valid_nat {c : Nat} (h : Utf8.valid (c : Int) = true) : c < 0xD800 ∨ (0xE000 ≤ c ∧ c ≤ 0x10FFFF) := by
  unfold Utf8.valid at h
  rw [Bool.or_eq_true, Bool.and_eq_true, Bool.and_eq_true, decide_eq_true_iff, decide_eq_true_iff, decide_eq_true_iff, decide_eq_true_iff] at h
  omega

theorem enc1 (r : Nat) (c1 : r < 128) : (Utf8.encode (r : Int)).data.toList = [UInt8.ofNat r] := by
  have v := valid_of r (by omega)
  simp [Utf8.encode, v, c1]
theorem enc2 (r : Nat) (c1 : ¬ r < 128) (c2 : r < 2048) : (Utf8.encode (r : Int)).data.toList = [UInt8.ofNat (192 + r / 64), UInt8.ofNat (128 + r % 64)] := by
  have v := valid_of r (by omega)
  simp [Utf8.encode, v, c1, c2]
theorem enc3 (r : Nat) (c2 : ¬ r < 2048) (c3 : r < 65536) (hv : r < 55296 ∨ 57344 ≤ r) : (Utf8.encode (r : Int)).data.toList = [UInt8.ofNat (224 + r / 4096), UInt8.ofNat (128 + r / 64 % 64), UInt8.ofNat (128 + r % 64)] := by
  have v := valid_of r (by omega)
  have c1 : ¬ r < 128 := by omega
  simp [Utf8.encode, v, c1, c2, c3]
theorem enc4 (r : Nat) (c3 : ¬ r < 65536) (c4 : r ≤ 1114111) : (Utf8.encode (r : Int)).data.toList = [UInt8.ofNat (240 + r / 262144), UInt8.ofNat (128 + r / 4096 % 64), UInt8.ofNat (128 + r / 64 % 64), UInt8.ofNat (128 + r % 64)] := by
  have v := valid_of r (by omega)
  have c1 : ¬ r < 128 := by omega
  have c2 : ¬ r < 2048 := by omega
  simp [Utf8.encode, v, c1, c2, c3]

theorem good1 (a : UInt8) (ha : a.toNat < 128) : Good [a] a.toNat where
  dec m := by simp [dec, at', ha]
  sz m := by simp [sz, at', ha]
  enc := by
    rw [enc1 _ ha]
    simp
  pos := by simp
  le4 := by simp
  zero := by
    constructor
    · intro h; congr 1; exact u8_ext h
    · intro h; simp at h; simp [h]
  rle := by omega
  shape := .inl ⟨a, rfl, ha⟩

theorem good2 (a b : UInt8) (ha : 0xc2 ≤ a.toNat) (ha' : a.toNat ≤ 0xdf) (hb : 128 ≤ b.toNat) (hb' : b.toNat ≤ 191) : Good [a, b] ((a.toNat % 32) * 64 + b.toNat % 64) where
  dec m := by
    have h0 : ¬ a.toNat < 128 := by omega
    have h1 : a.toNat / 32 = 6 := by omega
    have h2 : b.toNat / 64 = 2 := by omega
    have h3 : 128 ≤ a.toNat % 32 * 64 + b.toNat % 64 := by omega
    simp [dec, at', cont, h0, h1, h2, h3]
  sz m := by
    have h0 : ¬ a.toNat < 128 := by omega
    simp [sz, at', inn, h0, ha, ha', hb, hb']
  enc := by
    rw [enc2 _ (by omega) (by omega)]
    rw [ofNat_eq a _ (by omega), ofNat_eq b _ (by omega)]
  pos := by simp
  le4 := by simp
  zero := by
    constructor
    · intro h; omega
    · intro h; simp at h
  rle := by omega
  shape := .inr (by intro x hx; simp at hx; rcases hx with rfl | rfl <;> omega)

theorem good3 (a b c : UInt8) (ha : 0xe0 ≤ a.toNat) (ha' : a.toNat ≤ 0xef) (hb : low a.toNat ≤ b.toNat) (hb' : b.toNat ≤ high a.toNat) (hc : 128 ≤ c.toNat) (hc' : c.toNat ≤ 191) : Good [a, b, c] ((a.toNat % 16) * 4096 + (b.toNat % 64) * 64 + c.toNat % 64) := by
  have hL : 128 ≤ b.toNat ∧ b.toNat ≤ 191 ∧ (a.toNat = 0xe0 → 0xa0 ≤ b.toNat) ∧ (a.toNat = 0xed → b.toNat ≤ 0x9f) := by
    unfold low at hb; unfold high at hb'
    split at hb <;> split at hb' <;> (try split at hb) <;> (try split at hb') <;> omega
  obtain ⟨hb1, hb2, hb3, hb4⟩ := hL
  have h0 : ¬ a.toNat < 128 := by omega
  have hlt : a.toNat % 16 * 4096 + b.toNat % 64 * 64 + c.toNat % 64 < 65536 := by omega
  have hge : 0x800 ≤ a.toNat % 16 * 4096 + b.toNat % 64 * 64 + c.toNat % 64 := by omega
  have hv : a.toNat % 16 * 4096 + b.toNat % 64 * 64 + c.toNat % 64 < 0xD800 ∨ 0xE000 ≤ a.toNat % 16 * 4096 + b.toNat % 64 * 64 + c.toNat % 64 := by omega
  have hval : Utf8.valid ((a.toNat % 16 * 4096 + b.toNat % 64 * 64 + c.toNat % 64 : Nat) : Int) = true := valid_of _ (by omega)
  refine ⟨?_, ?_, ?_, by simp, by simp, ?_, by omega, .inr (by intro x hx; simp at hx; rcases hx with rfl | rfl | rfl <;> omega)⟩
  · intro m
    simp only [List.cons_append, List.nil_append]
    have h1 : (a.toNat / 32 == 6) = false := by simp; omega
    have h2 : a.toNat / 16 = 14 := by omega
    have h3 : b.toNat / 64 = 2 := by omega
    have h4 : c.toNat / 64 = 2 := by omega
    have e0 : at' (a :: b :: c :: m) 0 = a.toNat := rfl
    have e1 : at' (a :: b :: c :: m) 1 = b.toNat := rfl
    have e2 : at' (a :: b :: c :: m) 2 = c.toNat := rfl
    have c1 : cont (a :: b :: c :: m) 1 = true := by simp [cont, e1, h3]
    have c2 : cont (a :: b :: c :: m) 2 = true := by simp [cont, e2, h4]
    unfold dec
    simp only [e0, e1, e2, h0, h1, h2, c1, c2, if_false, Bool.false_and, hval]
    simp [hge]
  · intro m
    simp only [List.cons_append, List.nil_append]
    have e0 : at' (a :: b :: c :: m) 0 = a.toNat := rfl
    have i1 : inn (a :: b :: c :: m) 1 128 191 = true := by simp [inn, at', hb1, hb2]
    have i2 : inn (a :: b :: c :: m) 1 (low a.toNat) (high a.toNat) = true := by simp [inn, at', hb, hb']
    have i3 : inn (a :: b :: c :: m) 2 128 191 = true := by simp [inn, at', hc, hc']
    have n1 : ¬ a.toNat ≤ 0xdf := by omega
    unfold sz
    simp [e0, i1, i2, i3, h0, ha, ha', n1]
  · rw [enc3 _ (by omega) (by omega) hv]
    rw [ofNat_eq a _ (by omega), ofNat_eq b _ (by omega), ofNat_eq c _ (by omega)]
  · constructor
    · intro h; omega
    · intro h; simp at h

theorem good4 (a b c d : UInt8) (ha : 0xf0 ≤ a.toNat) (ha' : a.toNat ≤ 0xf4) (hb : low a.toNat ≤ b.toNat) (hb' : b.toNat ≤ high a.toNat) (hc : 128 ≤ c.toNat) (hc' : c.toNat ≤ 191) (hd : 128 ≤ d.toNat) (hd' : d.toNat ≤ 191) :
    Good [a, b, c, d] ((a.toNat % 8) * 262144 + (b.toNat % 64) * 4096 + (c.toNat % 64) * 64 + d.toNat % 64) := by
  have hL : 128 ≤ b.toNat ∧ b.toNat ≤ 191 ∧ (a.toNat = 0xf0 → 0x90 ≤ b.toNat) ∧ (a.toNat = 0xf4 → b.toNat ≤ 0x8f) := by
    unfold low at hb; unfold high at hb'
    split at hb <;> split at hb' <;> (try split at hb) <;> (try split at hb') <;> omega
  obtain ⟨hb1, hb2, hb3, hb4⟩ := hL
  have h0 : ¬ a.toNat < 128 := by omega
  have hlt : a.toNat % 8 * 262144 + b.toNat % 64 * 4096 + c.toNat % 64 * 64 + d.toNat % 64 ≤ 0x10FFFF := by omega
  have hge : 0x10000 ≤ a.toNat % 8 * 262144 + b.toNat % 64 * 4096 + c.toNat % 64 * 64 + d.toNat % 64 := by omega
  have hval : Utf8.valid ((a.toNat % 8 * 262144 + b.toNat % 64 * 4096 + c.toNat % 64 * 64 + d.toNat % 64 : Nat) : Int) = true := valid_of _ (by omega)
  refine ⟨?_, ?_, ?_, by simp, by simp, ?_, by omega, .inr (by intro x hx; simp at hx; rcases hx with rfl | rfl | rfl | rfl <;> omega)⟩
  · intro m
    simp only [List.cons_append, List.nil_append]
    have h1 : (a.toNat / 32 == 6) = false := by simp; omega
    have h1' : (a.toNat / 16 == 14) = false := by simp; omega
    have h2 : a.toNat / 8 = 30 := by omega
    have h3 : b.toNat / 64 = 2 := by omega
    have h4 : c.toNat / 64 = 2 := by omega
    have h5 : d.toNat / 64 = 2 := by omega
    have e0 : at' (a :: b :: c :: d :: m) 0 = a.toNat := rfl
    have e1 : at' (a :: b :: c :: d :: m) 1 = b.toNat := rfl
    have e2 : at' (a :: b :: c :: d :: m) 2 = c.toNat := rfl
    have e3 : at' (a :: b :: c :: d :: m) 3 = d.toNat := rfl
    have c1 : cont (a :: b :: c :: d :: m) 1 = true := by simp [cont, e1, h3]
    have c2 : cont (a :: b :: c :: d :: m) 2 = true := by simp [cont, e2, h4]
    have c3 : cont (a :: b :: c :: d :: m) 3 = true := by simp [cont, e3, h5]
    unfold dec
    simp only [e0, e1, e2, e3, h0, h1, h1', h2, c1, c2, c3, if_false, Bool.false_and, hval]
    simp [hge]
  · intro m
    simp only [List.cons_append, List.nil_append]
    have e0 : at' (a :: b :: c :: d :: m) 0 = a.toNat := rfl
    have i1 : inn (a :: b :: c :: d :: m) 1 128 191 = true := by simp [inn, at', hb1, hb2]
    have i2 : inn (a :: b :: c :: d :: m) 1 (low a.toNat) (high a.toNat) = true := by simp [inn, at', hb, hb']
    have i3 : inn (a :: b :: c :: d :: m) 2 128 191 = true := by simp [inn, at', hc, hc']
    have i4 : inn (a :: b :: c :: d :: m) 3 128 191 = true := by simp [inn, at', hd, hd']
    have n1 : ¬ a.toNat ≤ 0xdf := by omega
    have n2 : ¬ a.toNat ≤ 0xef := by omega
    unfold sz
    simp [e0, i1, i2, i3, i4, h0, ha, ha', n1, n2]
  · rw [enc4 _ (by omega) (by omega)]
    rw [ofNat_eq a _ (by omega), ofNat_eq b _ (by omega), ofNat_eq c _ (by omega), ofNat_eq d _ (by omega)]
  · constructor
    · intro h; omega
    · intro h; simp at h

theorem F_good : Good [0xEF, 0xBF, 0xBD] 0xFFFD := by
  have h := good3 0xEF 0xBF 0xBD (by decide) (by decide) (by decide) (by decide) (by decide) (by decide)
  exact h

/-- What stands at the head: a character, or a wrong byte. -/
theorem step (l : List UInt8) (h : l ≠ []) : (∃ c r t, l = c ++ t ∧ Good c r) ∨ (∃ a t, l = a :: t ∧ dec l = (0xFFFD, 1) ∧ sz l = 0) := by
  obtain ⟨a, t, rfl⟩ := List.exists_cons_of_ne_nil h
  have ha256 := a.toNat_lt
  by_cases h1 : a.toNat < 128
  · exact .inl ⟨[a], _, t, rfl, good1 a h1⟩
  have e0 : at' (a :: t) 0 = a.toNat := rfl
  match t with
  | [] =>
    refine .inr ⟨a, [], rfl, ?_, ?_⟩
    · simp [dec, at', cont, h1, Utf8.runeError]
    · simp [sz, at', inn, h1]
  | b :: t =>
  have e1 : at' (a :: b :: t) 1 = b.toNat := rfl
  have e0 : at' (a :: b :: t) 0 = a.toNat := rfl
  by_cases h2 : (0xc2 ≤ a.toNat ∧ a.toNat ≤ 0xdf) ∧ (128 ≤ b.toNat ∧ b.toNat ≤ 191)
  · exact .inl ⟨[a, b], _, t, rfl, good2 a b h2.1.1 h2.1.2 h2.2.1 h2.2.2⟩
  have i1 : inn (a :: b :: t) 1 128 191 = (decide (128 ≤ b.toNat) && decide (b.toNat ≤ 191)) := by simp [inn, e1]
  have c1 : cont (a :: b :: t) 1 = (b.toNat / 64 == 2) := by simp [cont, e1]
  have i1' : inn (a :: b :: t) 1 (low a.toNat) (high a.toNat) = (decide (low a.toNat ≤ b.toNat) && decide (b.toNat ≤ high a.toNat)) := by simp [inn, e1]
  have n1 : ¬ ((decide (0xc2 ≤ a.toNat) && decide (a.toNat ≤ 0xdf)) && inn (a :: b :: t) 1 128 191) = true := by
    rw [i1]; simp; omega
  have hlo : 128 ≤ low a.toNat := by unfold low; split <;> (try split) <;> omega
  have hhi : high a.toNat ≤ 191 := by unfold high; split <;> (try split) <;> omega
  -- the part of 'dec' of two bytes
  have d2 : (a.toNat / 32 == 6 && cont (a :: b :: t) 1) = true → ¬ (a.toNat % 32) * 64 + b.toNat % 64 ≥ 128 := by
    rw [c1]; simp; omega
  match t with
  | [] =>
    refine .inr ⟨a, [b], rfl, ?_, ?_⟩
    · have c2 : cont [a, b] 2 = false := by simp [cont]
      have c3 : cont [a, b] 3 = false := by simp [cont]
      unfold dec
      simp only [e0, e1, h1, c2, Utf8.runeError, if_false, Bool.and_false, Bool.false_and]
      by_cases hd : (a.toNat / 32 == 6 && cont [a, b] 1) = true
      · rw [if_pos hd, if_neg (d2 hd)]
      · rw [if_neg hd]; simp
    · have i2 : inn [a, b] 2 128 191 = false := by simp [inn]
      unfold sz
      rw [e0, if_neg h1, if_neg n1, i2]; simp
  | c :: t =>
  have e2 : at' (a :: b :: c :: t) 2 = c.toNat := rfl
  have e1 : at' (a :: b :: c :: t) 1 = b.toNat := rfl
  have e0 : at' (a :: b :: c :: t) 0 = a.toNat := rfl
  have i2 : inn (a :: b :: c :: t) 2 128 191 = (decide (128 ≤ c.toNat) && decide (c.toNat ≤ 191)) := by simp [inn, e2]
  have c2 : cont (a :: b :: c :: t) 2 = (c.toNat / 64 == 2) := by simp [cont, e2]
  by_cases h3 : (0xe0 ≤ a.toNat ∧ a.toNat ≤ 0xef) ∧ (low a.toNat ≤ b.toNat ∧ b.toNat ≤ high a.toNat) ∧ (128 ≤ c.toNat ∧ c.toNat ≤ 191)
  · exact .inl ⟨[a, b, c], _, t, rfl, good3 a b c h3.1.1 h3.1.2 h3.2.1.1 h3.2.1.2 h3.2.2.1 h3.2.2.2⟩
  have d3 : (a.toNat / 16 == 14 && cont (a :: b :: c :: t) 1 && cont (a :: b :: c :: t) 2) = true → ¬ (decide ((a.toNat % 16) * 4096 + (b.toNat % 64) * 64 + c.toNat % 64 ≥ 0x800) && Utf8.valid (((a.toNat % 16) * 4096 + (b.toNat % 64) * 64 + c.toNat % 64 : Nat) : Int)) = true := by
    rw [c1, c2]
    simp only [Bool.and_eq_true, beq_iff_eq, decide_eq_true_eq]
    intro ⟨⟨x1, x2⟩, x3⟩ ⟨y1, y2⟩
    have := valid_nat y2
    unfold low high at h3
    by_cases q1 : a.toNat = 0xe0
    · rw [if_pos q1, if_neg (by omega), if_neg (by omega)] at h3; omega
    · by_cases q2 : a.toNat = 0xed
      · rw [if_neg q1, if_neg (by omega), if_pos q2] at h3; omega
      · rw [if_neg q1, if_neg (by omega), if_neg q2, if_neg (by omega)] at h3; omega
  have n3 : ¬ (!inn (a :: b :: c :: t) 1 (low a.toNat) (high a.toNat) || !inn (a :: b :: c :: t) 2 128 191) = true → ¬ (decide (0xe0 ≤ a.toNat) && decide (a.toNat ≤ 0xef)) = true := by
    rw [i1', i2]
    simp only [Bool.or_eq_true, Bool.and_eq_true, Bool.not_eq_true', Bool.and_eq_false_iff, decide_eq_true_eq, decide_eq_false_iff_not]
    omega
  have s3 : (decide (0xf0 ≤ a.toNat) && decide (a.toNat ≤ 0xf4) && inn (a :: b :: c :: t) 3 128 191) = false → sz (a :: b :: c :: t) = 0 := by
    intro q
    unfold sz
    rw [e0, if_neg h1, if_neg n1, q]
    by_cases x : (!inn (a :: b :: c :: t) 1 (low a.toNat) (high a.toNat) || !inn (a :: b :: c :: t) 2 128 191) = true
    · rw [if_pos x]
    · rw [if_neg x, if_neg (n3 x)]; simp
  have dd : ∀ z, (if (a.toNat / 8 == 30 && cont (a :: b :: c :: t) 1 && cont (a :: b :: c :: t) 2 && cont (a :: b :: c :: t) 3) = true then z else (0xFFFD, 1)) = (0xFFFD, 1) →
      (z = (if (decide ((a.toNat % 8) * 262144 + (b.toNat % 64) * 4096 + (c.toNat % 64) * 64 + at' (a :: b :: c :: t) 3 % 64 ≥ 0x10000) && Utf8.valid (((a.toNat % 8) * 262144 + (b.toNat % 64) * 4096 + (c.toNat % 64) * 64 + at' (a :: b :: c :: t) 3 % 64 : Nat) : Int)) = true then ((a.toNat % 8) * 262144 + (b.toNat % 64) * 4096 + (c.toNat % 64) * 64 + at' (a :: b :: c :: t) 3 % 64, 4) else (0xFFFD, 1))) → dec (a :: b :: c :: t) = (0xFFFD, 1) := by
    intro z hz hz'
    unfold dec
    simp only [e0, e1, e2, h1, Utf8.runeError, if_false]
    by_cases hd : (a.toNat / 32 == 6 && cont (a :: b :: c :: t) 1) = true
    · rw [if_pos hd, if_neg (d2 hd)]
    · rw [if_neg hd]
      by_cases hd3 : (a.toNat / 16 == 14 && cont (a :: b :: c :: t) 1 && cont (a :: b :: c :: t) 2) = true
      · rw [if_pos hd3, if_neg (d3 hd3)]
      · rw [if_neg hd3, ← hz', hz]
  match t with
  | [] =>
    have c3 : cont [a, b, c] 3 = false := by simp [cont]
    refine .inr ⟨a, [b, c], rfl, dd _ ?_ rfl, s3 (by simp [inn])⟩
    rw [c3]; simp
  | d :: t =>
  have e3 : at' (a :: b :: c :: d :: t) 3 = d.toNat := rfl
  have i3 : inn (a :: b :: c :: d :: t) 3 128 191 = (decide (128 ≤ d.toNat) && decide (d.toNat ≤ 191)) := by simp [inn, e3]
  have c3 : cont (a :: b :: c :: d :: t) 3 = (d.toNat / 64 == 2) := by simp [cont, e3]
  by_cases h4 : (0xf0 ≤ a.toNat ∧ a.toNat ≤ 0xf4) ∧ (low a.toNat ≤ b.toNat ∧ b.toNat ≤ high a.toNat) ∧ (128 ≤ c.toNat ∧ c.toNat ≤ 191) ∧ (128 ≤ d.toNat ∧ d.toNat ≤ 191)
  · exact .inl ⟨[a, b, c, d], _, t, rfl, good4 a b c d h4.1.1 h4.1.2 h4.2.1.1 h4.2.1.2 h4.2.2.1.1 h4.2.2.1.2 h4.2.2.2.1 h4.2.2.2.2⟩
  refine .inr ⟨a, b :: c :: d :: t, rfl, dd _ ?_ rfl, ?_⟩
  · by_cases hd4 : (a.toNat / 8 == 30 && cont (a :: b :: c :: d :: t) 1 && cont (a :: b :: c :: d :: t) 2 && cont (a :: b :: c :: d :: t) 3) = true
    · rw [if_pos hd4, if_neg ?_]
      rw [c1, c2, c3] at hd4
      rw [e3]
      simp only [Bool.and_eq_true, beq_iff_eq, decide_eq_true_eq] at hd4 ⊢
      obtain ⟨⟨⟨x1, x2⟩, x3⟩, x4⟩ := hd4
      intro ⟨y1, y2⟩
      have := valid_nat y2
      unfold low high at h4
      by_cases q1 : a.toNat = 0xf0
      · rw [if_neg (by omega), if_pos q1, if_neg (by omega), if_neg (by omega)] at h4; omega
      · by_cases q2 : a.toNat = 0xf4
        · rw [if_neg (by omega), if_neg q1, if_neg (by omega), if_pos q2] at h4; omega
        · rw [if_neg (by omega), if_neg q1, if_neg (by omega), if_neg q2] at h4; omega
    · rw [if_neg hd4]
  · by_cases x : (!inn (a :: b :: c :: d :: t) 1 (low a.toNat) (high a.toNat) || !inn (a :: b :: c :: d :: t) 2 128 191) = true
    · unfold sz
      rw [e0, if_neg h1, if_neg n1, if_pos x]
    · apply s3
      rw [i3]
      rw [i1', i2] at x
      simp only [Bool.or_eq_true, Bool.not_eq_true', Bool.and_eq_false_iff, decide_eq_false_iff_not] at x ⊢
      omega

end Go.Proofs.Ytadhgngeonkfcaa.Ch
