/-
  Stage 7, in plain words: what loops over open elements (the first one first) and over attributes come to; nothing of the program.
  Plain mathematics on bytes as characters: what one step of a division finds at the head of a list of bytes, and what is made of it (decoded, right, counted, sampled, lines). It speaks of no program.
  Plain mathematics: a list of bytes divided from its beginning on, and what is told of that: decoded, right, how many, the first ones, one end of lines; and what holds of these for every list.
  Stage 8, in plain words: which trees are legal. Nothing of the program.
  Attributes in memory: what a slice of them reads as.
  Tokens in memory: what a slice of rows reads as, their attributes, a row loaded, a row in a box.
  Rows and attributes of the call's own: what they hold, what is kept where another one grows, append of a row and of attributes.
  Slices of bytes of the call's own: what they hold, the string of them. For every stage.
  fold.Space.
  boltingref02.Space.
  Walks of stage 2, for later stages: fold.lowerByte, Letter, Lower, Same, Trim, boltingref02.Letter, Lower, Trim.
  Walks of stage 3: refs.Code, boltingref03's Char and Code, the digits, has, end, bodyOf, kindOf.
  Walks of stage 3: the digits, has, end, bodyOf, kindOf.
  Walks of stage 3: the value of digits (boltingref03.value, refs.numbered).
  Walks of stage 3: the names (refs.Named over the package's table, boltingref03.Named).
  Walks of stage 3: what a reference's body stands for (refs.denoted, boltingref03.meant), the start of a text (refs.first), a text decoded (refs.Decode, boltingref03.Decode).
  Walks of stage 3: the start of a text (refs.first), a text decoded (refs.Decode, boltingref03.Decode).
  Walks of stage 3: a text decoded (refs.Decode, boltingref03.Decode).
-/
import Derived.Test.YtenmlpfjeohkiaaGreatDoorCk01
import Derived.Laws.RangeAny
import Derived.Deep.MidRow
import Derived.BigQuiet
import Derived.Deep.QuietTactic
import Derived.Lib.ConvBytes
namespace Go.Proofs.YtenmlpfjeohkiaaGreatDoor.Bm
set_option linter.unusedVariables false
set_option linter.unusedSimpArgs false
open Ba Fm Nm
open Ro (At Ro)
open Tm (Tk put)
/-- The last open elements, the first one first and the last one first. -/
theorem rev_take {o : List ByteArray} {k : Nat} {x : ByteArray} (h : o[k]? = some x) : (o.take (k + 1)).reverse = x :: (o.take k).reverse := by
  rw [List.take_add_one, h, List.reverse_append]
  rfl
theorem suffix_take {s r : List ByteArray} (h : r <:+ s) : s.reverse.take r.length = r.reverse := by
  obtain ⟨u, rfl⟩ := h
  rw [List.reverse_append, List.take_append_of_le_length (by rw [List.length_reverse]; exact Nat.le_refl _), ← List.length_reverse, List.take_length]
/-- Where a search from the end on stops. -/
theorem found_take {ns ws : List ByteArray} {o r : List ByteArray} (h : findS ns ws o.reverse = some r) : r = (o.take r.length).reverse ∧ r.length < o.length := by
  have h1 := suffix_take (findS_suffix h)
  have h2 := findS_len h
  rw [List.reverse_reverse] at h1
  rw [List.length_reverse] at h2
  exact ⟨by rw [h1, List.reverse_reverse], h2⟩
/-- Is there an attribute of this name among them? -/
def has (l : List At) (n : ByteArray) : Bool := l.any fun b => decide (b.name = n)
theorem once_len (l : List At) : (once l).length ≤ l.length := by
  have : ∀ (l acc : List At), (l.foldl put acc).length ≤ acc.length + l.length := fun l => by
    induction l with
    | nil => intro acc; exact Nat.le_refl _
    | cons a r ih =>
      intro acc
      refine Nat.le_trans (ih (put acc a)) ?_
      unfold put
      split
      · rw [List.length_cons]; omega
      · simp only [List.length_append, List.length_cons, List.length_nil]
        omega
  have := this l []
  rw [List.length_nil, Nat.zero_add] at this
  exact this

/-- Whether an element may stand within others, the first one first. -/
def nestedB (n : ByteArray) (o : List ByteArray) : Bool := decide ((openedS n o.reverse).length = o.length)
theorem nestedB_iff (n : ByteArray) (o : List ByteArray) : nestedB n o = true ↔ quiet n o.reverse := by
  unfold nestedB
  rw [decide_eq_true_iff, ← quiet_len, List.length_reverse]
theorem nestedB_nil (n : ByteArray) : nestedB n [] = true := (nestedB_iff n []).2 (quiet_nil n)
end Go.Proofs.YtenmlpfjeohkiaaGreatDoor.Bm

namespace Go.Proofs.YtenmlpfjeohkiaaGreatDoor.Ch
set_option linter.unusedSimpArgs false
set_option linter.unusedVariables false

def at' (l : List UInt8) (k : Nat) : Nat := (l.getD k 0).toNat

def inn (l : List UInt8) (k lo hi : Nat) : Bool := decide (k < l.length) && (decide (lo ≤ at' l k) && decide (at' l k ≤ hi))

def low (c : Nat) : Nat := if c = 0xe0 then 0xa0 else if c = 0xf0 then 0x90 else 128
def high (c : Nat) : Nat := if c = 0xed then 0x9f else if c = 0xf4 then 0x8f else 191

/-- How many bytes the character at the head has; 0: the byte is wrong. -/
def sz (l : List UInt8) : Nat :=
  if at' l 0 < 128 then 1
  else if (decide (0xc2 ≤ at' l 0) && decide (at' l 0 ≤ 0xdf)) && inn l 1 128 191 then 2
  else if !inn l 1 (low (at' l 0)) (high (at' l 0)) || !inn l 2 128 191 then 0
  else if decide (0xe0 ≤ at' l 0) && decide (at' l 0 ≤ 0xef) then 3
  else if (decide (0xf0 ≤ at' l 0) && decide (at' l 0 ≤ 0xf4)) && inn l 3 128 191 then 4
  else 0

def cont (l : List UInt8) (k : Nat) : Bool := decide (k < l.length) && (at' l k / 64 == 2)

def dec (l : List UInt8) : Nat × Nat :=
  let b0 := at' l 0
  if b0 < 0x80 then (b0, 1)
  else if b0 / 32 == 6 && cont l 1 then
    let c := (b0 % 32) * 64 + at' l 1 % 64
    if c ≥ 0x80 then (c, 2) else (Utf8.runeError, 1)
  else if b0 / 16 == 14 && cont l 1 && cont l 2 then
    let c := (b0 % 16) * 4096 + (at' l 1 % 64) * 64 + at' l 2 % 64
    if c ≥ 0x800 && Utf8.valid c then (c, 3) else (Utf8.runeError, 1)
  else if b0 / 8 == 30 && cont l 1 && cont l 2 && cont l 3 then
    let c := (b0 % 8) * 262144 + (at' l 1 % 64) * 4096 + (at' l 2 % 64) * 64 + at' l 3 % 64
    if c ≥ 0x10000 && Utf8.valid c then (c, 4) else (Utf8.runeError, 1)
  else (Utf8.runeError, 1)

theorem get_eq (s : ByteArray) (i k : Nat) : (s.get! (i + k)).toNat = at' (s.data.toList.drop i) k := by
  have h : s.get! (i + k) = (s.data.toList.drop i).getD k 0 := by
    rw [List.getD_eq_getElem?_getD, List.getElem?_drop]
    simp [ByteArray.get!, Array.getElem!_eq_getD]
    rfl
  rw [h]; rfl

theorem cont_eq (s : ByteArray) (i k : Nat) : (decide (i + k < s.size) && ((s.get! (i + k)).toNat / 64 == 2)) = cont (s.data.toList.drop i) k := by
  rw [get_eq, cont]
  congr 1
  have : s.size = s.data.toList.length := by rw [Array.length_toList]; rfl
  rw [Bool.eq_iff_iff]
  simp only [decide_eq_true_iff, List.length_drop]
  omega

theorem decode_eq (s : ByteArray) (i : Nat) : Utf8.decode s i = dec (s.data.toList.drop i) := by
  have c1 := cont_eq s i 1
  have c2 := cont_eq s i 2
  have c3 := cont_eq s i 3
  have g0 := get_eq s i 0
  have g1 := get_eq s i 1
  have g2 := get_eq s i 2
  have g3 := get_eq s i 3
  unfold Utf8.decode dec
  dsimp only
  simp only [c1, c2, c3]
  simp only [g0, g1, g2, g3]

structure Good (c : List UInt8) (r : Nat) : Prop where
  dec : ∀ m, dec (c ++ m) = (r, c.length)
  sz : ∀ m, sz (c ++ m) = c.length
  enc : (Utf8.encode (r : Int)).data.toList = c
  pos : 0 < c.length
  le4 : c.length ≤ 4
  zero : r = 0 ↔ c = [0]
  rle : r ≤ 0x10FFFF
  shape : (∃ a, c = [a] ∧ a.toNat < 128) ∨ ∀ b ∈ c, 128 ≤ b.toNat

theorem u8_ext {a b : UInt8} (h : a.toNat = b.toNat) : a = b := UInt8.toNat_inj.mp h
theorem ofNat_eq (a : UInt8) (n : Nat) (h : n = a.toNat) : UInt8.ofNat n = a := by
  apply u8_ext; rw [h]; simp

theorem valid_of (c : Nat) (h : c < 0xD800 ∨ (0xE000 ≤ c ∧ c ≤ 0x10FFFF)) : Utf8.valid (c : Int) = true := by
  unfold Utf8.valid
  rw [Bool.or_eq_true, Bool.and_eq_true, Bool.and_eq_true, decide_eq_true_iff, decide_eq_true_iff, decide_eq_true_iff, decide_eq_true_iff]
  omega

theorem valid_nat {c : Nat} (h : Utf8.valid (c : Int) = true) : c < 0xD800 ∨ (0xE000 ≤ c ∧ c ≤ 0x10FFFF) := by
  unfold Utf8.valid at h
  rw [Bool.or_eq_true, Bool.and_eq_true, Bool.and_eq_true, decide_eq_true_iff, decide_eq_true_iff, decide_eq_true_iff, decide_eq_true_iff] at h
  omega

theorem enc1 (r : Nat) (c1 : r < 128) : (Utf8.encode (r : Int)).data.toList = [UInt8.ofNat r] := by
  have v := valid_of r (by omega)
  simp [Utf8.encode, v, c1]
theorem enc2 (r : Nat) (c1 : ¬ r < 128) (c2 : r < 2048) : (Utf8.encode (r : Int)).data.toList = [UInt8.ofNat (192 + r / 64), UInt8.ofNat (128 + r % 64)] := by
  have v := valid_of r (by omega)
  simp [Utf8.encode, v, c1, c2]
theorem enc3 (r : Nat) (c2 : ¬ r < 2048) (c3 : r < 65536) (hv : r < 55296 ∨ 57344 ≤ r) : (Utf8.encode (r : Int)).data.toList = [UInt8.ofNat (224 + r / 4096), UInt8.ofNat (128 + r / 64 % 64), UInt8.ofNat (128 + r % 64)] := by
  have v := valid_of r (by omega)
  have c1 : ¬ r < 128 := by omega
  simp [Utf8.encode, v, c1, c2, c3]
theorem enc4 (r : Nat) (c3 : ¬ r < 65536) (c4 : r ≤ 1114111) : (Utf8.encode (r : Int)).data.toList = [UInt8.ofNat (240 + r / 262144), UInt8.ofNat (128 + r / 4096 % 64), UInt8.ofNat (128 + r / 64 % 64), UInt8.ofNat (128 + r % 64)] := by
  have v := valid_of r (by omega)
  have c1 : ¬ r < 128 := by omega
  have c2 : ¬ r < 2048 := by omega
  simp [Utf8.encode, v, c1, c2, c3]

theorem good1 (a : UInt8) (ha : a.toNat < 128) : Good [a] a.toNat where
  dec m := by simp [dec, at', ha]
  sz m := by simp [sz, at', ha]
  enc := by
    rw [enc1 _ ha]
    simp
  pos := by simp
  le4 := by simp
  zero := by
    constructor
    · intro h; congr 1; exact u8_ext h
    · intro h; simp at h; simp [h]
  rle := by omega
  shape := .inl ⟨a, rfl, ha⟩

theorem good2 (a b : UInt8) (ha : 0xc2 ≤ a.toNat) (ha' : a.toNat ≤ 0xdf) (hb : 128 ≤ b.toNat) (hb' : b.toNat ≤ 191) : Good [a, b] ((a.toNat % 32) * 64 + b.toNat % 64) where
  dec m := by
    have h0 : ¬ a.toNat < 128 := by omega
    have h1 : a.toNat / 32 = 6 := by omega
    have h2 : b.toNat / 64 = 2 := by omega
    have h3 : 128 ≤ a.toNat % 32 * 64 + b.toNat % 64 := by omega
    simp [dec, at', cont, h0, h1, h2, h3]
  sz m := by
    have h0 : ¬ a.toNat < 128 := by omega
    simp [sz, at', inn, h0, ha, ha', hb, hb']
  enc := by
    rw [enc2 _ (by omega) (by omega)]
    rw [ofNat_eq a _ (by omega), ofNat_eq b _ (by omega)]
  pos := by simp
  le4 := by simp
  zero := by
    constructor
    · intro h; omega
    · intro h; simp at h
  rle := by omega
  shape := .inr (by intro x hx; simp at hx; rcases hx with rfl | rfl <;> omega)

theorem good3 (a b c : UInt8) (ha : 0xe0 ≤ a.toNat) (ha' : a.toNat ≤ 0xef) (hb : low a.toNat ≤ b.toNat) (hb' : b.toNat ≤ high a.toNat) (hc : 128 ≤ c.toNat) (hc' : c.toNat ≤ 191) : Good [a, b, c] ((a.toNat % 16) * 4096 + (b.toNat % 64) * 64 + c.toNat % 64) := by
  have hL : 128 ≤ b.toNat ∧ b.toNat ≤ 191 ∧ (a.toNat = 0xe0 → 0xa0 ≤ b.toNat) ∧ (a.toNat = 0xed → b.toNat ≤ 0x9f) := by
    unfold low at hb; unfold high at hb'
    split at hb <;> split at hb' <;> (try split at hb) <;> (try split at hb') <;> omega
  obtain ⟨hb1, hb2, hb3, hb4⟩ := hL
  have h0 : ¬ a.toNat < 128 := by omega
  have hlt : a.toNat % 16 * 4096 + b.toNat % 64 * 64 + c.toNat % 64 < 65536 := by omega
  have hge : 0x800 ≤ a.toNat % 16 * 4096 + b.toNat % 64 * 64 + c.toNat % 64 := by omega
  have hv : a.toNat % 16 * 4096 + b.toNat % 64 * 64 + c.toNat % 64 < 0xD800 ∨ 0xE000 ≤ a.toNat % 16 * 4096 + b.toNat % 64 * 64 + c.toNat % 64 := by omega
  have hval : Utf8.valid ((a.toNat % 16 * 4096 + b.toNat % 64 * 64 + c.toNat % 64 : Nat) : Int) = true := valid_of _ (by omega)
  refine ⟨?_, ?_, ?_, by simp, by simp, ?_, by omega, .inr (by intro x hx; simp at hx; rcases hx with rfl | rfl | rfl <;> omega)⟩
  · intro m
    simp only [List.cons_append, List.nil_append]
    have h1 : (a.toNat / 32 == 6) = false := by simp; omega
    have h2 : a.toNat / 16 = 14 := by omega
    have h3 : b.toNat / 64 = 2 := by omega
    have h4 : c.toNat / 64 = 2 := by omega
    have e0 : at' (a :: b :: c :: m) 0 = a.toNat := rfl
    have e1 : at' (a :: b :: c :: m) 1 = b.toNat := rfl
    have e2 : at' (a :: b :: c :: m) 2 = c.toNat := rfl
    have c1 : cont (a :: b :: c :: m) 1 = true := by simp [cont, e1, h3]
    have c2 : cont (a :: b :: c :: m) 2 = true := by simp [cont, e2, h4]
    unfold dec
    simp only [e0, e1, e2, h0, h1, h2, c1, c2, if_false, Bool.false_and, hval]
    simp [hge]
  · intro m
    simp only [List.cons_append, List.nil_append]
    have e0 : at' (a :: b :: c :: m) 0 = a.toNat := rfl
    have i1 : inn (a :: b :: c :: m) 1 128 191 = true := by simp [inn, at', hb1, hb2]
    have i2 : inn (a :: b :: c :: m) 1 (low a.toNat) (high a.toNat) = true := by simp [inn, at', hb, hb']
    have i3 : inn (a :: b :: c :: m) 2 128 191 = true := by simp [inn, at', hc, hc']
    have n1 : ¬ a.toNat ≤ 0xdf := by omega
    unfold sz
    simp [e0, i1, i2, i3, h0, ha, ha', n1]
  · rw [enc3 _ (by omega) (by omega) hv]
    rw [ofNat_eq a _ (by omega), ofNat_eq b _ (by omega), ofNat_eq c _ (by omega)]
  · constructor
    · intro h; omega
    · intro h; simp at h

theorem good4 (a b c d : UInt8) (ha : 0xf0 ≤ a.toNat) (ha' : a.toNat ≤ 0xf4) (hb : low a.toNat ≤ b.toNat) (hb' : b.toNat ≤ high a.toNat) (hc : 128 ≤ c.toNat) (hc' : c.toNat ≤ 191) (hd : 128 ≤ d.toNat) (hd' : d.toNat ≤ 191) :
    Good [a, b, c, d] ((a.toNat % 8) * 262144 + (b.toNat % 64) * 4096 + (c.toNat % 64) * 64 + d.toNat % 64) := by
  have hL : 128 ≤ b.toNat ∧ b.toNat ≤ 191 ∧ (a.toNat = 0xf0 → 0x90 ≤ b.toNat) ∧ (a.toNat = 0xf4 → b.toNat ≤ 0x8f) := by
    unfold low at hb; unfold high at hb'
    split at hb <;> split at hb' <;> (try split at hb) <;> (try split at hb') <;> omega
  obtain ⟨hb1, hb2, hb3, hb4⟩ := hL
  have h0 : ¬ a.toNat < 128 := by omega
  have hlt : a.toNat % 8 * 262144 + b.toNat % 64 * 4096 + c.toNat % 64 * 64 + d.toNat % 64 ≤ 0x10FFFF := by omega
  have hge : 0x10000 ≤ a.toNat % 8 * 262144 + b.toNat % 64 * 4096 + c.toNat % 64 * 64 + d.toNat % 64 := by omega
  have hval : Utf8.valid ((a.toNat % 8 * 262144 + b.toNat % 64 * 4096 + c.toNat % 64 * 64 + d.toNat % 64 : Nat) : Int) = true := valid_of _ (by omega)
  refine ⟨?_, ?_, ?_, by simp, by simp, ?_, by omega, .inr (by intro x hx; simp at hx; rcases hx with rfl | rfl | rfl | rfl <;> omega)⟩
  · intro m
    simp only [List.cons_append, List.nil_append]
    have h1 : (a.toNat / 32 == 6) = false := by simp; omega
    have h1' : (a.toNat / 16 == 14) = false := by simp; omega
    have h2 : a.toNat / 8 = 30 := by omega
    have h3 : b.toNat / 64 = 2 := by omega
    have h4 : c.toNat / 64 = 2 := by omega
    have h5 : d.toNat / 64 = 2 := by omega
    have e0 : at' (a :: b :: c :: d :: m) 0 = a.toNat := rfl
    have e1 : at' (a :: b :: c :: d :: m) 1 = b.toNat := rfl
    have e2 : at' (a :: b :: c :: d :: m) 2 = c.toNat := rfl
    have e3 : at' (a :: b :: c :: d :: m) 3 = d.toNat := rfl
    have c1 : cont (a :: b :: c :: d :: m) 1 = true := by simp [cont, e1, h3]
    have c2 : cont (a :: b :: c :: d :: m) 2 = true := by simp [cont, e2, h4]
    have c3 : cont (a :: b :: c :: d :: m) 3 = true := by simp [cont, e3, h5]
    unfold dec
    simp only [e0, e1, e2, e3, h0, h1, h1', h2, c1, c2, c3, if_false, Bool.false_and, hval]
    simp [hge]
  · intro m
    simp only [List.cons_append, List.nil_append]
    have e0 : at' (a :: b :: c :: d :: m) 0 = a.toNat := rfl
    have i1 : inn (a :: b :: c :: d :: m) 1 128 191 = true := by simp [inn, at', hb1, hb2]
    have i2 : inn (a :: b :: c :: d :: m) 1 (low a.toNat) (high a.toNat) = true := by simp [inn, at', hb, hb']
    have i3 : inn (a :: b :: c :: d :: m) 2 128 191 = true := by simp [inn, at', hc, hc']
    have i4 : inn (a :: b :: c :: d :: m) 3 128 191 = true := by simp [inn, at', hd, hd']
    have n1 : ¬ a.toNat ≤ 0xdf := by omega
    have n2 : ¬ a.toNat ≤ 0xef := by omega
    unfold sz
    simp [e0, i1, i2, i3, i4, h0, ha, ha', n1, n2]
  · rw [enc4 _ (by omega) (by omega)]
    rw [ofNat_eq a _ (by omega), ofNat_eq b _ (by omega), ofNat_eq c _ (by omega), ofNat_eq d _ (by omega)]
  · constructor
    · intro h; omega
    · intro h; simp at h

theorem F_good : Good [0xEF, 0xBF, 0xBD] 0xFFFD := by
  have h := good3 0xEF 0xBF 0xBD (by decide) (by decide) (by decide) (by decide) (by decide) (by decide)
  exact h

/-- What stands at the head: a character, or a wrong byte. -/
theorem step (l : List UInt8) (h : l ≠ []) : (∃ c r t, l = c ++ t ∧ Good c r) ∨ (∃ a t, l = a :: t ∧ dec l = (0xFFFD, 1) ∧ sz l = 0) := by
  obtain ⟨a, t, rfl⟩ := List.exists_cons_of_ne_nil h
  have ha256 := a.toNat_lt
  by_cases h1 : a.toNat < 128
  · exact .inl ⟨[a], _, t, rfl, good1 a h1⟩
  have e0 : at' (a :: t) 0 = a.toNat := rfl
  match t with
  | [] =>
    refine .inr ⟨a, [], rfl, ?_, ?_⟩
    · simp [dec, at', cont, h1, Utf8.runeError]
    · simp [sz, at', inn, h1]
  | b :: t =>
  have e1 : at' (a :: b :: t) 1 = b.toNat := rfl
  have e0 : at' (a :: b :: t) 0 = a.toNat := rfl
  by_cases h2 : (0xc2 ≤ a.toNat ∧ a.toNat ≤ 0xdf) ∧ (128 ≤ b.toNat ∧ b.toNat ≤ 191)
  · exact .inl ⟨[a, b], _, t, rfl, good2 a b h2.1.1 h2.1.2 h2.2.1 h2.2.2⟩
  have i1 : inn (a :: b :: t) 1 128 191 = (decide (128 ≤ b.toNat) && decide (b.toNat ≤ 191)) := by simp [inn, e1]
  have c1 : cont (a :: b :: t) 1 = (b.toNat / 64 == 2) := by simp [cont, e1]
  have i1' : inn (a :: b :: t) 1 (low a.toNat) (high a.toNat) = (decide (low a.toNat ≤ b.toNat) && decide (b.toNat ≤ high a.toNat)) := by simp [inn, e1]
  have n1 : ¬ ((decide (0xc2 ≤ a.toNat) && decide (a.toNat ≤ 0xdf)) && inn (a :: b :: t) 1 128 191) = true := by
    rw [i1]; simp; omega
  have hlo : 128 ≤ low a.toNat := by unfold low; split <;> (try split) <;> omega
  have hhi : high a.toNat ≤ 191 := by unfold high; split <;> (try split) <;> omega
  -- the part of 'dec' of two bytes
  have d2 : (a.toNat / 32 == 6 && cont (a :: b :: t) 1) = true → ¬ (a.toNat % 32) * 64 + b.toNat % 64 ≥ 128 := by
    rw [c1]; simp; omega
  match t with
  | [] =>
    refine .inr ⟨a, [b], rfl, ?_, ?_⟩
    · have c2 : cont [a, b] 2 = false := by simp [cont]
      have c3 : cont [a, b] 3 = false := by simp [cont]
      unfold dec
      simp only [e0, e1, h1, c2, Utf8.runeError, if_false, Bool.and_false, Bool.false_and]
      by_cases hd : (a.toNat / 32 == 6 && cont [a, b] 1) = true
      · rw [if_pos hd, if_neg (d2 hd)]
      · rw [if_neg hd]; simp
    · have i2 : inn [a, b] 2 128 191 = false := by simp [inn]
      unfold sz
      rw [e0, if_neg h1, if_neg n1, i2]; simp
  | c :: t =>
  have e2 : at' (a :: b :: c :: t) 2 = c.toNat := rfl
  have e1 : at' (a :: b :: c :: t) 1 = b.toNat := rfl
  have e0 : at' (a :: b :: c :: t) 0 = a.toNat := rfl
  have i2 : inn (a :: b :: c :: t) 2 128 191 = (decide (128 ≤ c.toNat) && decide (c.toNat ≤ 191)) := by simp [inn, e2]
  have c2 : cont (a :: b :: c :: t) 2 = (c.toNat / 64 == 2) := by simp [cont, e2]
  by_cases h3 : (0xe0 ≤ a.toNat ∧ a.toNat ≤ 0xef) ∧ (low a.toNat ≤ b.toNat ∧ b.toNat ≤ high a.toNat) ∧ (128 ≤ c.toNat ∧ c.toNat ≤ 191)
  · exact .inl ⟨[a, b, c], _, t, rfl, good3 a b c h3.1.1 h3.1.2 h3.2.1.1 h3.2.1.2 h3.2.2.1 h3.2.2.2⟩
  have d3 : (a.toNat / 16 == 14 && cont (a :: b :: c :: t) 1 && cont (a :: b :: c :: t) 2) = true → ¬ (decide ((a.toNat % 16) * 4096 + (b.toNat % 64) * 64 + c.toNat % 64 ≥ 0x800) && Utf8.valid (((a.toNat % 16) * 4096 + (b.toNat % 64) * 64 + c.toNat % 64 : Nat) : Int)) = true := by
    rw [c1, c2]
    simp only [Bool.and_eq_true, beq_iff_eq, decide_eq_true_eq]
    intro ⟨⟨x1, x2⟩, x3⟩ ⟨y1, y2⟩
    have := valid_nat y2
    unfold low high at h3
    by_cases q1 : a.toNat = 0xe0
    · rw [if_pos q1, if_neg (by omega), if_neg (by omega)] at h3; omega
    · by_cases q2 : a.toNat = 0xed
      · rw [if_neg q1, if_neg (by omega), if_pos q2] at h3; omega
      · rw [if_neg q1, if_neg (by omega), if_neg q2, if_neg (by omega)] at h3; omega
  have n3 : ¬ (!inn (a :: b :: c :: t) 1 (low a.toNat) (high a.toNat) || !inn (a :: b :: c :: t) 2 128 191) = true → ¬ (decide (0xe0 ≤ a.toNat) && decide (a.toNat ≤ 0xef)) = true := by
    rw [i1', i2]
    simp only [Bool.or_eq_true, Bool.and_eq_true, Bool.not_eq_true', Bool.and_eq_false_iff, decide_eq_true_eq, decide_eq_false_iff_not]
    omega
  have s3 : (decide (0xf0 ≤ a.toNat) && decide (a.toNat ≤ 0xf4) && inn (a :: b :: c :: t) 3 128 191) = false → sz (a :: b :: c :: t) = 0 := by
    intro q
    unfold sz
    rw [e0, if_neg h1, if_neg n1, q]
    by_cases x : (!inn (a :: b :: c :: t) 1 (low a.toNat) (high a.toNat) || !inn (a :: b :: c :: t) 2 128 191) = true
    · rw [if_pos x]
    · rw [if_neg x, if_neg (n3 x)]; simp
  have dd : ∀ z, (if (a.toNat / 8 == 30 && cont (a :: b :: c :: t) 1 && cont (a :: b :: c :: t) 2 && cont (a :: b :: c :: t) 3) = true then z else (0xFFFD, 1)) = (0xFFFD, 1) →
      (z = (if (decide ((a.toNat % 8) * 262144 + (b.toNat % 64) * 4096 + (c.toNat % 64) * 64 + at' (a :: b :: c :: t) 3 % 64 ≥ 0x10000) && Utf8.valid (((a.toNat % 8) * 262144 + (b.toNat % 64) * 4096 + (c.toNat % 64) * 64 + at' (a :: b :: c :: t) 3 % 64 : Nat) : Int)) = true then ((a.toNat % 8) * 262144 + (b.toNat % 64) * 4096 + (c.toNat % 64) * 64 + at' (a :: b :: c :: t) 3 % 64, 4) else (0xFFFD, 1))) → dec (a :: b :: c :: t) = (0xFFFD, 1) := by
    intro z hz hz'
    unfold dec
    simp only [e0, e1, e2, h1, Utf8.runeError, if_false]
    by_cases hd : (a.toNat / 32 == 6 && cont (a :: b :: c :: t) 1) = true
    · rw [if_pos hd, if_neg (d2 hd)]
    · rw [if_neg hd]
      by_cases hd3 : (a.toNat / 16 == 14 && cont (a :: b :: c :: t) 1 && cont (a :: b :: c :: t) 2) = true
      · rw [if_pos hd3, if_neg (d3 hd3)]
      · rw [if_neg hd3, ← hz', hz]
  match t with
  | [] =>
    have c3 : cont [a, b, c] 3 = false := by simp [cont]
    refine .inr ⟨a, [b, c], rfl, dd _ ?_ rfl, s3 (by simp [inn])⟩
    rw [c3]; simp
  | d :: t =>
  have e3 : at' (a :: b :: c :: d :: t) 3 = d.toNat := rfl
  have i3 : inn (a :: b :: c :: d :: t) 3 128 191 = (decide (128 ≤ d.toNat) && decide (d.toNat ≤ 191)) := by simp [inn, e3]
  have c3 : cont (a :: b :: c :: d :: t) 3 = (d.toNat / 64 == 2) := by simp [cont, e3]
  by_cases h4 : (0xf0 ≤ a.toNat ∧ a.toNat ≤ 0xf4) ∧ (low a.toNat ≤ b.toNat ∧ b.toNat ≤ high a.toNat) ∧ (128 ≤ c.toNat ∧ c.toNat ≤ 191) ∧ (128 ≤ d.toNat ∧ d.toNat ≤ 191)
  · exact .inl ⟨[a, b, c, d], _, t, rfl, good4 a b c d h4.1.1 h4.1.2 h4.2.1.1 h4.2.1.2 h4.2.2.1.1 h4.2.2.1.2 h4.2.2.2.1 h4.2.2.2.2⟩
  refine .inr ⟨a, b :: c :: d :: t, rfl, dd _ ?_ rfl, ?_⟩
  · by_cases hd4 : (a.toNat / 8 == 30 && cont (a :: b :: c :: d :: t) 1 && cont (a :: b :: c :: d :: t) 2 && cont (a :: b :: c :: d :: t) 3) = true
    · rw [if_pos hd4, if_neg ?_]
      rw [c1, c2, c3] at hd4
      rw [e3]
      simp only [Bool.and_eq_true, beq_iff_eq, decide_eq_true_eq] at hd4 ⊢
      obtain ⟨⟨⟨x1, x2⟩, x3⟩, x4⟩ := hd4
      intro ⟨y1, y2⟩
      have := valid_nat y2
      unfold low high at h4
      by_cases q1 : a.toNat = 0xf0
      · rw [if_neg (by omega), if_pos q1, if_neg (by omega), if_neg (by omega)] at h4; omega
      · by_cases q2 : a.toNat = 0xf4
        · rw [if_neg (by omega), if_neg q1, if_neg (by omega), if_pos q2] at h4; omega
        · rw [if_neg (by omega), if_neg q1, if_neg (by omega), if_neg q2] at h4; omega
    · rw [if_neg hd4]
  · by_cases x : (!inn (a :: b :: c :: d :: t) 1 (low a.toNat) (high a.toNat) || !inn (a :: b :: c :: d :: t) 2 128 191) = true
    · unfold sz
      rw [e0, if_neg h1, if_neg n1, if_pos x]
    · apply s3
      rw [i3]
      rw [i1', i2] at x
      simp only [Bool.or_eq_true, Bool.not_eq_true', Bool.and_eq_false_iff, decide_eq_false_iff_not] at x ⊢
      omega

end Go.Proofs.YtenmlpfjeohkiaaGreatDoor.Ch

namespace Go.Proofs.YtenmlpfjeohkiaaGreatDoor.Ch
set_option linter.unusedSimpArgs false
set_option linter.unusedVariables false

theorem ind {P : List UInt8 → Prop} (h0 : P []) (hg : ∀ c r t, Good c r → P t → P (c ++ t)) (hb : ∀ a t, dec (a :: t) = (0xFFFD, 1) → sz (a :: t) = 0 → P t → P (a :: t)) : ∀ l, P l := by
  have key : ∀ n l, l.length ≤ n → P l := by
    intro n
    induction n with
    | zero => intro l hl; have : l = [] := List.eq_nil_of_length_eq_zero (by omega); subst this; exact h0
    | succ n ih =>
      intro l hl
      by_cases hn : l = []
      · subst hn; exact h0
      · rcases step l hn with ⟨c, r, t, rfl, G⟩ | ⟨a, t, rfl, hd, hs⟩
        · have := G.pos; simp at hl; exact hg c r t G (ih t (by omega))
        · simp at hl; exact hb a t hd hs (ih t (by omega))
  exact fun l => key l.length l (Nat.le_refl _)

def F : List UInt8 := [0xEF, 0xBF, 0xBD]

/-- The division: of each part its rune and its bytes. -/
def pieces : Nat → List UInt8 → List (Nat × List UInt8)
  | 0, _ => []
  | _ + 1, [] => []
  | n + 1, a :: t => ((dec (a :: t)).1, (a :: t).take (dec (a :: t)).2) :: pieces n ((a :: t).drop (dec (a :: t)).2)

def pcs (l : List UInt8) : List (Nat × List UInt8) := pieces l.length l

theorem dec_pos (l : List UInt8) (h : l ≠ []) : 1 ≤ (dec l).2 := by
  rcases step l h with ⟨c, r, t, rfl, G⟩ | ⟨a, t, rfl, hd, hs⟩
  · rw [G.dec]; exact G.pos
  · rw [hd]; exact Nat.le_refl _

theorem pieces_more : ∀ n m l, l.length ≤ n → n ≤ m → pieces m l = pieces n l := by
  intro n
  induction n with
  | zero =>
    intro m l hl _
    have : l = [] := List.eq_nil_of_length_eq_zero (by omega)
    subst this
    cases m <;> rfl
  | succ n ih =>
    intro m l hl hm
    obtain ⟨m, rfl⟩ : ∃ k, m = k + 1 := ⟨m - 1, by omega⟩
    cases l with
    | nil => rfl
    | cons a t =>
      have := dec_pos (a :: t) (by simp)
      simp only [pieces]
      rw [ih m _ (by simp only [List.length_drop]; simp at hl ⊢; omega) (by omega)]

theorem pcs_step (l : List UInt8) (h : l ≠ []) : pcs l = ((dec l).1, l.take (dec l).2) :: pcs (l.drop (dec l).2) := by
  obtain ⟨a, t, rfl⟩ := List.exists_cons_of_ne_nil h
  have := dec_pos (a :: t) (by simp)
  show pieces (t.length + 1) (a :: t) = _
  rw [pieces]
  congr 1
  exact pieces_more _ _ _ (Nat.le_refl _) (by simp only [List.length_drop, List.length_cons]; omega)

theorem pcs_good {c : List UInt8} {r : Nat} (G : Good c r) (t : List UInt8) : pcs (c ++ t) = (r, c) :: pcs t := by
  have hne : c ++ t ≠ [] := by have := G.pos; intro e; simp at e; simp [e.1] at this
  rw [pcs_step _ hne, G.dec]
  simp

theorem pcs_bad {a : UInt8} {t : List UInt8} (hd : dec (a :: t) = (0xFFFD, 1)) : pcs (a :: t) = (0xFFFD, [a]) :: pcs t := by
  rw [pcs_step _ (by simp), hd]
  simp

/-- Decoded. -/
def encR (r : Nat) : List UInt8 := if r = 0 then F else (Utf8.encode (r : Int)).data.toList
theorem encR_zero : encR 0 = F := if_pos rfl
theorem encR_pos {r : Nat} (h : r ≠ 0) : encR r = (Utf8.encode (r : Int)).data.toList := if_neg h
theorem encR_good {c : List UInt8} {r : Nat} (G : Good c r) : encR r = if r = 0 then F else c := by
  by_cases h : r = 0
  · rw [if_pos h, h, encR_zero]
  · rw [if_neg h, encR_pos h, G.enc]
theorem encR_bad : encR 0xFFFD = F := by
  rw [encR_pos (by decide), F_good.enc]; rfl
def encP (p : Nat × List UInt8) : List UInt8 := encR p.1
def dL (l : List UInt8) : List UInt8 := (pcs l).flatMap encP

theorem dL_nil : dL [] = [] := rfl
theorem dL_step (l : List UInt8) (h : l ≠ []) : dL l = encR (dec l).1 ++ dL (l.drop (dec l).2) := by
  unfold dL; rw [pcs_step l h, List.flatMap_cons]; rfl
theorem dL_good {c : List UInt8} {r : Nat} (G : Good c r) (t : List UInt8) : dL (c ++ t) = (if r = 0 then F else c) ++ dL t := by
  unfold dL
  rw [pcs_good G, List.flatMap_cons, encP, encR_good G]
theorem dL_bad {a : UInt8} {t : List UInt8} (hd : dec (a :: t) = (0xFFFD, 1)) : dL (a :: t) = F ++ dL t := by
  unfold dL
  rw [pcs_bad hd, List.flatMap_cons, encP, encR_bad]
/-- Right. -/
def okP (p : Nat × List UInt8) : Bool := !(p.1 == 0xFFFD) || p.2 == F
def rL (l : List UInt8) : Bool := (pcs l).all okP
theorem rL_nil : rL [] = true := rfl
theorem rL_step (l : List UInt8) (h : l ≠ []) : rL l = (okP ((dec l).1, l.take (dec l).2) && rL (l.drop (dec l).2)) := by
  unfold rL; rw [pcs_step l h]; rfl
theorem Good.fffd {c : List UInt8} (G : Good c 0xFFFD) : c = F := by rw [← G.enc]; exact F_good.enc
theorem okP_good {c : List UInt8} {r : Nat} (G : Good c r) : okP (r, c) = true := by
  unfold okP
  by_cases h : r = 0xFFFD
  · subst h; rw [G.fffd]; rfl
  · have : (r == 0xFFFD) = false := by simpa using h
    simp only [this]; rfl
theorem rL_good {c : List UInt8} {r : Nat} (G : Good c r) (t : List UInt8) : rL (c ++ t) = rL t := by
  unfold rL
  rw [pcs_good G, List.all_cons, okP_good G, Bool.true_and]
theorem rL_bad {a : UInt8} {t : List UInt8} (hd : dec (a :: t) = (0xFFFD, 1)) : rL (a :: t) = false := by
  unfold rL
  rw [pcs_bad hd, List.all_cons]
  simp [okP, F]

/-- How many. -/
def cL (l : List UInt8) : Nat := (pcs l).length
theorem cL_nil : cL [] = 0 := rfl
theorem cL_good {c : List UInt8} {r : Nat} (G : Good c r) (t : List UInt8) : cL (c ++ t) = 1 + cL t := by
  unfold cL; rw [pcs_good G, List.length_cons]; omega
/-- One end of lines: p: the byte ahead was a 13. -/
def ln : Bool → List UInt8 → List UInt8
  | _, [] => []
  | p, c :: t => if c = 13 then 10 :: ln true t else if c = 10 ∧ p = true then ln false t else c :: ln false t

theorem ln_13 (p : Bool) (t : List UInt8) : ln p (13 :: t) = 10 :: ln true t := by simp [ln]
theorem ln_10 (t : List UInt8) : ln true (10 :: t) = ln false t := by simp [ln]
theorem ln_other (p : Bool) (c : UInt8) (t : List UInt8) (h : c ≠ 13) (h' : ¬ (c = 10 ∧ p = true)) : ln p (c :: t) = c :: ln false t := by simp only [ln, h, h', if_false]
theorem ln_high (c : List UInt8) (h : ∀ b ∈ c, 128 ≤ b.toNat) (p : Bool) (t : List UInt8) (hc : c ≠ []) : ln p (c ++ t) = c ++ ln false t := by
  induction c generalizing p with
  | nil => exact absurd rfl hc
  | cons b c ih =>
    have hb := h b (by simp)
    have h1 : b ≠ 13 := by intro e; subst e; simp at hb
    have h2 : b ≠ 10 := by intro e; subst e; simp at hb
    rw [List.cons_append, ln_other _ _ _ h1 (fun x => h2 x.1), List.cons_append]
    congr 1
    by_cases hc : c = []
    · subst hc; rfl
    · exact ih (fun x hx => h x (by simp [hx])) false hc

theorem ln_good {c : List UInt8} {r : Nat} (G : Good c r) (p : Bool) (t : List UInt8) :
    (c = [13] ∧ ln p (c ++ t) = 10 :: ln true t) ∨ (c = [10] ∧ p = true ∧ ln p (c ++ t) = ln false t) ∨ (c ≠ [13] ∧ ln p (c ++ t) = c ++ ln false t) := by
  rcases G.shape with ⟨a, rfl, ha⟩ | hh
  · by_cases h1 : a = 13
    · subst h1; exact .inl ⟨rfl, ln_13 _ _⟩
    · by_cases h2 : a = 10 ∧ p = true
      · obtain ⟨rfl, rfl⟩ := h2
        exact .inr (.inl ⟨rfl, rfl, ln_10 _⟩)
      · exact .inr (.inr ⟨by simpa using h1, ln_other _ _ _ h1 h2⟩)
  · refine .inr (.inr ⟨?_, ln_high c hh p t (by have := G.pos; intro e; simp [e] at this)⟩)
    intro e; subst e; have := hh 13 (by simp); simp at this

/-! ### What holds -/

theorem good10 : Good [10] 10 := good1 10 (by decide)

theorem right_dL (l : List UInt8) : rL (dL l) = true := by
  refine ind (P := fun l => rL (dL l) = true) rfl ?_ ?_ l
  · intro c r t G ih
    rw [dL_good G]
    by_cases h : r = 0
    · rw [if_pos h]; exact (rL_good F_good _).trans ih
    · rw [if_neg h]; exact (rL_good G _).trans ih
  · intro a t hd _ ih
    rw [dL_bad hd]; exact (rL_good F_good _).trans ih

theorem len_dL (l : List UInt8) : (dL l).length ≤ 3 * l.length := by
  refine ind (P := fun l => (dL l).length ≤ 3 * l.length) (by simp [dL_nil]) ?_ ?_ l
  · intro c r t G ih
    have := G.pos
    rw [dL_good G, List.length_append, List.length_append]
    by_cases h : r = 0
    · rw [if_pos h]; simp only [F, List.length_cons, List.length_nil]; omega
    · rw [if_neg h]; omega
  · intro a t hd _ ih
    rw [dL_bad hd, List.length_append]; simp only [F, List.length_cons, List.length_nil]; omega

theorem ln_len (p : Bool) (l : List UInt8) : (ln p l).length ≤ l.length := by
  induction l generalizing p with
  | nil => simp [ln]
  | cons c t ih =>
    have h1 := ih true; have h2 := ih false
    simp only [ln]
    split
    · simp; omega
    · split
      · simp; omega
      · simp; omega

theorem rL_10 (t : List UInt8) : rL (10 :: t) = rL t := rL_good good10 t

theorem right_ln (l : List UInt8) : ∀ p, rL l = true → rL (ln p l) = true := by
  refine ind (P := fun l => ∀ p, rL l = true → rL (ln p l) = true) (fun _ _ => rfl) ?_ ?_ l
  · intro c r t G ih p h
    rw [rL_good G] at h
    rcases ln_good G p t with ⟨_, e⟩ | ⟨_, _, e⟩ | ⟨_, e⟩
    · rw [e, rL_10]; exact ih _ h
    · rw [e]; exact ih _ h
    · rw [e, rL_good G]; exact ih _ h
  · intro a t hd _ ih p h
    rw [rL_bad hd] at h; exact absurd h (by simp)

theorem no13 (l : List UInt8) : ∀ p, (13 : UInt8) ∉ ln p l := by
  induction l with
  | nil => intro p; simp [ln]
  | cons c t ih =>
    intro p
    simp only [ln]
    split
    · simp [ih]
    · rename_i h
      split
      · exact ih _
      · simp [ih, Ne.symm h]

theorem ln_id (l : List UInt8) (h : (13 : UInt8) ∉ l) : ln false l = l := by
  induction l with
  | nil => rfl
  | cons c t ih =>
    simp at h
    rw [ln_other _ _ _ (Ne.symm h.1) (by simp), ih h.2]

theorem no0 (l : List UInt8) : (0 : UInt8) ∉ dL l := by
  refine ind (P := fun l => (0 : UInt8) ∉ dL l) (by simp [dL_nil]) ?_ ?_ l
  · intro c r t G ih
    rw [dL_good G, List.mem_append]
    rintro (h | h)
    · by_cases hr : r = 0
      · rw [if_pos hr] at h; exact absurd h (by decide)
      · rw [if_neg hr] at h
        rcases G.shape with ⟨a, rfl, _⟩ | hh
        · simp at h; exact hr (G.zero.2 (by rw [← h]))
        · have := hh 0 h; simp at this
    · exact ih h
  · intro a t hd _ ih
    rw [dL_bad hd, List.mem_append]
    rintro (h | h)
    · exact absurd h (by decide)
    · exact ih h

theorem ln_sub (l : List UInt8) : ∀ p x, x ∈ ln p l → x = 10 ∨ x ∈ l := by
  induction l with
  | nil => intro p x h; simp [ln] at h
  | cons c t ih =>
    intro p x h
    simp only [ln] at h
    split at h
    · simp at h; rcases h with h | h
      · exact .inl h
      · rcases ih _ _ h with h | h
        · exact .inl h
        · exact .inr (by simp [h])
    · split at h
      · rcases ih _ _ h with h | h
        · exact .inl h
        · exact .inr (by simp [h])
      · simp at h; rcases h with h | h
        · exact .inr (by simp [h])
        · rcases ih _ _ h with h | h
          · exact .inl h
          · exact .inr (by simp [h])

theorem no0_ready (l : List UInt8) : (0 : UInt8) ∉ ln false (dL l) := fun h => by
  rcases ln_sub _ _ _ h with h | h
  · exact absurd h (by decide)
  · exact no0 l h

theorem dL_id (l : List UInt8) : rL l = true → (0 : UInt8) ∉ l → dL l = l := by
  refine ind (P := fun l => rL l = true → (0 : UInt8) ∉ l → dL l = l) (fun _ _ => rfl) ?_ ?_ l
  · intro c r t G ih h hz
    rw [rL_good G] at h
    simp at hz
    rw [dL_good G, ih h hz.2, if_neg]
    intro e
    rw [G.zero.1 e] at hz
    simp at hz
  · intro a t hd _ ih h
    rw [rL_bad hd] at h; exact absurd h (by simp)

theorem ready_right (l : List UInt8) : rL (ln false (dL l)) = true := right_ln _ _ (right_dL l)
theorem joins (a b : List UInt8) : rL a = true → rL (a ++ b) = rL b ∧ dL (a ++ b) = dL a ++ dL b ∧ cL (a ++ b) = cL a + cL b := by
  refine ind (P := fun a => rL a = true → rL (a ++ b) = rL b ∧ dL (a ++ b) = dL a ++ dL b ∧ cL (a ++ b) = cL a + cL b) (fun _ => ⟨rfl, by simp [dL_nil], by simp [cL_nil]⟩) ?_ ?_ a
  · intro c r t G ih h
    rw [rL_good G] at h
    obtain ⟨h1, h2, h3⟩ := ih h
    rw [List.append_assoc]
    refine ⟨by rw [rL_good G, h1], by rw [dL_good G, dL_good G, h2, List.append_assoc], by rw [cL_good G, cL_good G, h3]; omega⟩
  · intro a t hd _ ih h
    rw [rL_bad hd] at h; exact absurd h (by simp)

theorem dec_le (l : List UInt8) (h : l ≠ []) : (dec l).2 ≤ l.length := by
  rcases step l h with ⟨c, r, t, rfl, G⟩ | ⟨a, t, rfl, hd, hs⟩
  · rw [G.dec]; simp
  · rw [hd]; simp

theorem starts_eq (l : List UInt8) (h : l ≠ []) (hr : (dec l).1 = 0xFFFD) : decide (l.take 3 = F) = (l.take (dec l).2 == F) := by
  rcases step l h with ⟨c, r, t, rfl, G⟩ | ⟨a, t, rfl, hd, hs⟩
  · rw [G.dec] at hr ⊢
    have hr' : r = 0xFFFD := hr
    subst hr'
    have := G.fffd
    subst this
    rw [List.take_left]
    have : (F ++ t).take 3 = F := rfl
    rw [this]; simp
  · rw [hd]
    have h1 : ((a :: t).take 1 == F) = false := by simp [F]
    rw [h1, decide_eq_false_iff_not]
    intro e
    have e2 : a :: t = F ++ (a :: t).drop 3 := by rw [← e, List.take_append_drop]
    rw [e2, show dec (F ++ (a :: t).drop 3) = (0xFFFD, 3) from F_good.dec _] at hd
    simp at hd

theorem sz_bad (l : List UInt8) (h : l ≠ []) (hs : sz l = 0) : dec l = (0xFFFD, 1) ∧ ∃ a t, l = a :: t := by
  rcases step l h with ⟨c, r, t, rfl, G⟩ | ⟨a, t, rfl, hd, _⟩
  · rw [G.sz] at hs; have := G.pos; omega
  · exact ⟨hd, a, t, rfl⟩
theorem sz_good (l : List UInt8) (h : l ≠ []) (hs : sz l ≠ 0) : ∃ c r t, l = c ++ t ∧ Good c r ∧ sz l = c.length := by
  rcases step l h with ⟨c, r, t, rfl, G⟩ | ⟨a, t, rfl, _, hz⟩
  · exact ⟨c, r, t, rfl, G, G.sz t⟩
  · exact absurd hz hs
theorem rL_sz (l : List UInt8) (h : l ≠ []) : rL l = (if sz l = 0 then false else rL (l.drop (sz l))) := by
  by_cases hs : sz l = 0
  · rw [if_pos hs]
    obtain ⟨hd, a, t, rfl⟩ := sz_bad l h hs
    exact rL_bad hd
  · rw [if_neg hs]
    obtain ⟨c, r, t, rfl, G, e⟩ := sz_good l h hs
    rw [G.sz, rL_good G, List.drop_left]
/-- Bytes below 128, but 0 and 13. -/
def plain (l : List UInt8) : Prop := ∀ x ∈ l, x.toNat < 128 ∧ x ≠ 0 ∧ x ≠ 13

theorem plain_rL (l : List UInt8) (h : plain l) : rL l = true := by
  induction l with
  | nil => rfl
  | cons a t ih => rw [show a :: t = [a] ++ t from rfl, rL_good (good1 a (h a (by simp)).1), ih (fun x hx => h x (by simp [hx]))]
end Go.Proofs.YtenmlpfjeohkiaaGreatDoor.Ch

namespace Go.Proofs.YtenmlpfjeohkiaaGreatDoor.Wm
set_option linter.unusedVariables false
set_option linter.unusedSimpArgs false
open Ba Fm Rm Nm Bm
open Ch (rL)
open Ro (At Ro)
open Tm (pre)
/-- Does p stand somewhere in a text? -/
def sub (p : List UInt8) : List UInt8 → Bool
  | [] => false
  | a :: r => pre p (a :: r) || sub p r
/-- Does a text end with p? -/
def suf (p l : List UInt8) : Bool := decide (p.length ≤ l.length) && decide (l.drop (l.length - p.length) = p)
def cleanB (l : List UInt8) : Bool := rL l && !sub [0] l && !sub [13] l
def nameB (n : ByteArray) : Bool := rightB n && !isIn n goneL && cleanB (L n)
def attB (a : At) : Bool := attrB a.name && cleanB (L a.name) && cleanB (L a.value)
def noteB (d : List UInt8) : Bool := !sub [45, 45, 62] d && !sub [45, 45, 33, 62] d && !pre [62] d && !pre [45, 62] d
def plainB (d : List UInt8) : Bool := !sub [60, 47] d && !suf [60] d
/-- May a row stand anywhere? -/
def rowB (x : Ro) : Bool :=
  if x.kind = 0 then nameB x.name && x.attrs.all attB
  else if x.kind = 2 then noteB (L x.data) && cleanB (L x.data)
  else cleanB (L x.data)
/-- The name right around, or none. -/
def lastN (s : List ByteArray) : ByteArray := s.getLastD ⟨#[]⟩
/-- May a row stand within elements of these names (the last one right around it)? -/
def withB (x : Ro) (s : List ByteArray) : Bool :=
  if isIn (lastN s) voidL = true then false
  else if isIn (lastN s) rawL = true then x.kind == 1 && plainB (L x.data)
  else if isIn (lastN s) softL = true then x.kind == 1
  else x.kind != 0 || nestedB x.name s
/-- Legal from here on, within these elements. -/
def legB (s : List ByteArray) : List Ro → Bool
  | [] => true
  | x :: r => rowB x && withB x (s.take x.depth.toNat) && legB (if x.kind = 0 then s.take x.depth.toNat ++ [x.name] else s.take x.depth.toNat) r
def legalB (l : List Ro) : Bool := (!Ro.exceeds l 4096 60 && Ro.right l) && decide (l = Ro.normal l) && legB [] l

end Go.Proofs.YtenmlpfjeohkiaaGreatDoor.Wm

namespace Go.Proofs.YtenmlpfjeohkiaaGreatDoor.Ro
set_option maxRecDepth 100000
set_option linter.unusedVariables false
set_option linter.unusedSimpArgs false
open Go.RowKit Ba
def acells (a : At) : List Value := [.string a.name, .string a.value]
theorem len_acells (x : At) : (acells x).length = 2 := rfl
/-- These attributes lie at A, below block N. -/
def Ra (w : World) (N : Nat) (A : Option Addr) (l : List At) : Prop :=
  0 < l.length → ∃ b off, A = some ⟨b, off, none⟩ ∧ b < N ∧ ∀ j (h : j < l.length), w.rangeAt b (off + j * 2) (acells l[j])
/-- Their names are no longer than a string can be. -/
def Sh (l : List At) : Prop := ∀ a ∈ l, a.name.size ≤ maxLen
theorem range_keep {w w' : World} {b o : Nat} {cs : List Value} (h : w.rangeAt b o cs) (hk : ∀ o, w'.cell? ⟨b, o, none⟩ = w.cell? ⟨b, o, none⟩) : w'.rangeAt b o cs := fun j v hv => (hk _).trans (h j v hv)
theorem Ra.keep {w w' : World} {N : Nat} {A : Option Addr} {l : List At} (h : Ra w N A l) (hk : ∀ b o, b < N → w'.cell? ⟨b, o, none⟩ = w.cell? ⟨b, o, none⟩) : Ra w' N A l := fun h0 => by
  obtain ⟨b, off, e, hb, hc⟩ := h h0
  exact ⟨b, off, e, hb, fun j hj => range_keep (hc j hj) fun o => hk b o hb⟩
theorem Ra.more {w : World} {N M : Nat} {A : Option Addr} {l : List At} (h : Ra w N A l) (hN : N ≤ M) : Ra w M A l := fun h0 => by
  obtain ⟨b, off, e, hb, hc⟩ := h h0
  exact ⟨b, off, e, by omega, hc⟩
theorem Ra.below {w w' : World} {N M : Nat} {A : Option Addr} {l : List At} (h : Ra w N A l) (hb : Below M w w') (hN : N ≤ M := by exact Nat.le_refl _) : Ra w' N A l := h.keep fun b o hbN => hb.cell (p := ⟨b, o, none⟩) (show b < M by omega)
theorem Ra.nil (w : World) (N : Nat) (A : Option Addr) : Ra w N A [] := fun h => absurd h (by simp)
theorem info_attr : (Tryz.prog.info? 46).map (fun i => (i.zero, i.size, i.bytes)) = some (some (.agg #[.string .empty, .string .empty]), 2, 32) := by kernel_rfl
theorem size_attr : (Tryz.prog.info? 46).map (·.size) = some 2 := by kernel_rfl
theorem range5 {w : World} {b o : Nat} {v0 v1 v2 v3 v4 : Value} (h : w.rangeAt b o [v0, v1, v2, v3, v4]) :
    w.cell? ⟨b, o, none⟩ = some v0 ∧ w.cell? ⟨b, o + 1, none⟩ = some v1 ∧ w.cell? ⟨b, o + 2, none⟩ = some v2 ∧ w.cell? ⟨b, o + 3, none⟩ = some v3 ∧ w.cell? ⟨b, o + 4, none⟩ = some v4 :=
  ⟨h 0 _ rfl, h 1 _ rfl, h 2 _ rfl, h 3 _ rfl, h 4 _ rfl⟩
theorem range2 {w : World} {b o : Nat} {v0 v1 : Value} (h : w.rangeAt b o [v0, v1]) : w.cell? ⟨b, o, none⟩ = some v0 ∧ w.cell? ⟨b, o + 1, none⟩ = some v1 := ⟨h 0 _ rfl, h 1 _ rfl⟩
theorem Ra.at_ {w : World} {N : Nat} {A : Option Addr} {l : List At} (h : Ra w N A l) (k : Nat) (hk : k < l.length) :
    ∃ b off x, A = some ⟨b, off, none⟩ ∧ b < N ∧ l.drop k = x :: l.drop (k + 1) ∧ w.rangeAt b (off + k * 2) [.string x.name, .string x.value] ∧ x ∈ l := by
  obtain ⟨b, off, e, hb, hc⟩ := h (by omega)
  exact ⟨b, off, l[k], e, hb, List.drop_eq_getElem_cons hk, hc k hk, List.getElem_mem _⟩
theorem below_new (w : World) (o : Obj) : Below w.heap.size w (w.alloc o) := (Below.refl _ _).alloc (Nat.le_refl _) _
theorem getElem_of_drop {α : Type} {l : List α} {k : Nat} {x : α} {r : List α} (h : l.drop k = x :: r) : l[k]? = some x := by
  have := List.getElem?_drop (xs := l) (i := k) (j := 0)
  rw [h] at this
  simpa using this.symm
theorem len_part {α : Type} (l : List α) (i j : Nat) (hj : j ≤ l.length) : ((l.take j).drop i).length = j - i := by
  rw [List.length_drop, List.length_take]
  omega
theorem flat_at {α : Type} (f : α → List Value) (m : Nat) (hm : ∀ x, (f x).length = m) : ∀ (l : List α) (j i : Nat) (h : j < l.length), i < m → (l.flatMap f)[j * m + i]? = (f l[j])[i]?
  | [], j, _, h, _ => absurd h (by simp)
  | x :: r, 0, i, _, hi => by
    rw [List.flatMap_cons, List.getElem?_append_left (by rw [hm]; omega)]
    simp
  | x :: r, j + 1, i, h, hi => by
    rw [List.flatMap_cons, List.getElem?_append_right (by rw [hm, Nat.add_mul]; omega), hm, show (j + 1) * m + i - m = j * m + i from by rw [Nat.add_mul]; omega]
    rw [flat_at f m hm r j i (by simpa using h) hi]
    rfl
theorem flat_len {α : Type} (f : α → List Value) (m : Nat) (hm : ∀ x, (f x).length = m) : ∀ l : List α, (l.flatMap f).length = l.length * m
  | [] => by simp
  | x :: r => by rw [List.flatMap_cons, List.length_append, hm, flat_len f m hm r, List.length_cons, Nat.add_mul]; omega
theorem acells_one (l : List At) : ∀ u ∈ l.flatMap acells, u.oneCell' = true := by
  intro u hu
  obtain ⟨x, _, hu⟩ := List.mem_flatMap.1 hu
  simp only [acells, List.mem_cons, List.not_mem_nil, or_false] at hu
  rcases hu with rfl | rfl <;> rfl
end Go.Proofs.YtenmlpfjeohkiaaGreatDoor.Ro

namespace Go.Proofs.YtenmlpfjeohkiaaGreatDoor.To
set_option maxRecDepth 100000
set_option linter.unusedVariables false
set_option linter.unusedSimpArgs false
open Go.RowKit Ba Tm
open Ro (At acells len_acells Ra Sh range_keep info_attr size_attr range2 range5 below_new getElem_of_drop len_part flat_at flat_len acells_one)
/-- A row as it lies: where its attributes are, and how much room is there. -/
structure Tw where
  tk : Tk
  A : Option Addr
  c : Nat

def cells (x : Tw) : List Value := [.int .i64 x.tk.kind, .string x.tk.name, .string x.tk.data, .slice x.A x.tk.attrs.length x.c, .bool x.tk.self]
theorem len_cells (x : Tw) : (cells x).length = 5 := rfl
def Att (w : World) (N : Nat) (x : Tw) : Prop := x.tk.attrs.length ≤ x.c ∧ (x.A = none → x.c = 0) ∧ x.c ≤ maxLen ∧ Ra w N x.A x.tk.attrs ∧ Sh x.tk.attrs
/-- These rows lie at A, below block N, and their attributes. -/
def Rr (w : World) (N : Nat) (A : Option Addr) (l : List Tw) : Prop :=
  (0 < l.length → ∃ b off, A = some ⟨b, off, none⟩ ∧ b < N ∧ ∀ j (h : j < l.length), w.rangeAt b (off + j * 5) (cells l[j])) ∧ ∀ x ∈ l, Att w N x
/-- A row as a value. -/
abbrev tokV (x : Tw) : Value := .agg #[.int .i64 x.tk.kind, .string x.tk.name, .string x.tk.data, .slice x.A x.tk.attrs.length x.c, .bool x.tk.self]
def tks (l : List Tw) : List Tk := l.map Tw.tk
theorem len_tks (l : List Tw) : (tks l).length = l.length := List.length_map _
theorem tks_drop (l : List Tw) (k : Nat) : (tks l).drop k = tks (l.drop k) := by simp [tks, List.map_drop]
theorem tks_append (a b : List Tw) : tks (a ++ b) = tks a ++ tks b := by simp [tks]
theorem tks_cons (a : Tw) (b : List Tw) : tks (a :: b) = a.tk :: tks b := rfl

theorem Att.keep {w w' : World} {N : Nat} {x : Tw} (h : Att w N x) (hk : ∀ b o, b < N → w'.cell? ⟨b, o, none⟩ = w.cell? ⟨b, o, none⟩) : Att w' N x := ⟨h.1, h.2.1, h.2.2.1, h.2.2.2.1.keep hk, h.2.2.2.2⟩
theorem Att.more {w : World} {N M : Nat} {x : Tw} (h : Att w N x) (hN : N ≤ M) : Att w M x := ⟨h.1, h.2.1, h.2.2.1, h.2.2.2.1.more hN, h.2.2.2.2⟩
theorem Att.below {w w' : World} {N M : Nat} {x : Tw} (h : Att w N x) (hb : Below M w w') (hN : N ≤ M := by exact Nat.le_refl _) : Att w' N x := h.keep fun b o hbN => hb.cell (p := ⟨b, o, none⟩) (show b < M by omega)
theorem Rr.keep {w w' : World} {N : Nat} {A : Option Addr} {l : List Tw} (h : Rr w N A l) (hk : ∀ b o, b < N → w'.cell? ⟨b, o, none⟩ = w.cell? ⟨b, o, none⟩) : Rr w' N A l :=
  ⟨fun h0 => by
    obtain ⟨b, off, e, hb, hc⟩ := h.1 h0
    exact ⟨b, off, e, hb, fun j hj => range_keep (hc j hj) fun o => hk b o hb⟩, fun x hx => (h.2 x hx).keep hk⟩
theorem Rr.more {w : World} {N M : Nat} {A : Option Addr} {l : List Tw} (h : Rr w N A l) (hN : N ≤ M) : Rr w M A l :=
  ⟨fun h0 => by
    obtain ⟨b, off, e, hb, hc⟩ := h.1 h0
    exact ⟨b, off, e, by omega, hc⟩, fun x hx => (h.2 x hx).more hN⟩
theorem Rr.below {w w' : World} {N M : Nat} {A : Option Addr} {l : List Tw} (h : Rr w N A l) (hb : Below M w w') (hN : N ≤ M := by exact Nat.le_refl _) : Rr w' N A l := h.keep fun b o hbN => hb.cell (p := ⟨b, o, none⟩) (show b < M by omega)
theorem Rr.nil (w : World) (N : Nat) (A : Option Addr) : Rr w N A [] := ⟨fun h => absurd h (by simp), fun _ h => by simp at h⟩
/-- A part of it: what the model makes of l[i:j]. -/
theorem Rr.part {w : World} {N : Nat} {A : Option Addr} {l : List Tw} (h : Rr w N A l) (i j cap : Nat) (hij : i ≤ j) (hj : j ≤ l.length) (hc : l.length ≤ cap) :
    Rr w N (if cap = i then A else A.map (·.add (i * 5))) ((l.take j).drop i) := by
  refine ⟨fun h0 => ?_, fun x hx => h.2 x (List.mem_of_mem_take (List.mem_of_mem_drop hx))⟩
  rw [List.length_drop, List.length_take] at h0
  obtain ⟨b, off, e, hb, hcc⟩ := h.1 (by omega)
  rw [if_neg (by omega), e]
  refine ⟨b, off + i * 5, by simp [WideShapes.add_plain], hb, fun k hk => ?_⟩
  rw [List.length_drop, List.length_take] at hk
  have := hcc (i + k) (by omega)
  rw [show off + i * 5 + k * 5 = off + (i + k) * 5 from by omega]
  simpa using this

theorem info_tok : (Tryz.prog.info? 67).map (fun i => (i.zero, i.size, i.bytes)) = some (some (.agg #[.int .i64 0, .string .empty, .string .empty, .slice none 0 0, .bool false]), 5, 72) := by kernel_rfl
/-- The row at k. -/
theorem Rr.at_ {w : World} {N : Nat} {A : Option Addr} {l : List Tw} (h : Rr w N A l) (k : Nat) (hk : k < l.length) :
    ∃ b off x, A = some ⟨b, off, none⟩ ∧ b < N ∧ l.drop k = x :: l.drop (k + 1) ∧ w.rangeAt b (off + k * 5) [.int .i64 x.tk.kind, .string x.tk.name, .string x.tk.data, .slice x.A x.tk.attrs.length x.c, .bool x.tk.self] ∧ Att w N x ∧ x ∈ l := by
  obtain ⟨b, off, e, hb, hc⟩ := h.1 (by omega)
  exact ⟨b, off, l[k], e, hb, List.drop_eq_getElem_cons hk, hc k hk, h.2 _ (List.getElem_mem _), List.getElem_mem _⟩
/-- A row in a box of its own. -/
abbrev tokO (x : Tw) : Obj := .cells #[.int .i64 x.tk.kind, .string x.tk.name, .string x.tk.data, .slice x.A x.tk.attrs.length x.c, .bool x.tk.self] 67
theorem box_at (w : World) (x : Tw) (j : Nat) : (w.alloc (tokO x)).cell? ⟨w.heap.size, j, none⟩ = (cells x)[j]? := by
  rw [World.cell?_alloc_mark]
  match j with
  | 0 | 1 | 2 | 3 | 4 => rfl
  | j + 5 => simp [cells]
theorem box_kept {w w3 : World} {x : Tw} (hb : Below (w.alloc (tokO x)).heap.size (w.alloc (tokO x)) w3) (j : Nat) : w3.cell? ⟨w.heap.size, j, none⟩ = (cells x)[j]? :=
  (hb.cell (p := ⟨w.heap.size, j, none⟩) (by simp)).trans (box_at w x j)
theorem Att.boxed {w w0 : World} {x : Tw} (h : Att w w0.heap.size x) (hb : Below w0.heap.size w0 w) (o : Obj) : Att (w.alloc o) (w.alloc o).heap.size x :=
  ((h.more hb.size).below (below_new w o)).more (by simp)
/-- l[i:j] where i is ahead of the room's end. -/
theorem Rr.mid {w : World} {N : Nat} {A : Option Addr} {l : List Tw} (h : Rr w N A l) (i j cap : Nat) (hij : i ≤ j) (hj : j ≤ l.length) (hc : l.length ≤ cap) (hne : i < cap) :
    Rr w N (Option.map (fun x => x.add (i * 5)) A) ((l.take j).drop i) := by
  have := h.part i j cap hij hj hc
  rwa [if_neg (by omega)] at this
end Go.Proofs.YtenmlpfjeohkiaaGreatDoor.To

namespace Go.Proofs.YtenmlpfjeohkiaaGreatDoor.To
set_option maxRecDepth 100000
set_option linter.unusedVariables false
set_option linter.unusedSimpArgs false
open Go.RowKit Ba Tm
open Ro (At acells len_acells Ra Sh range_keep info_attr size_attr range2 range5 below_new getElem_of_drop len_part flat_at flat_len acells_one)
/-- The attributes of a row lie where no row of the call's own can lie. -/
def Ap (w : World) (N : Nat) (x : Tw) : Prop := 0 < x.tk.attrs.length → ∃ b off, x.A = some ⟨b, off, none⟩ ∧ (b < N ∨ ∃ cs fr, w.heap[b]? = some (.cells cs 46 fr))
/-- The attributes of a row are the call's own. -/
def Fr (N : Nat) (w : World) (x : Tw) : Prop := w.ownsRow N 46 2 (.slice x.A x.tk.attrs.length x.c) x.tk.attrs.length (x.tk.attrs.flatMap acells) ∧ Sh x.tk.attrs
/-- v is a slice of rows of the call's own. -/
def Ow (N : Nat) (w : World) (v : Value) (l : List Tw) : Prop := w.ownsRow N 67 5 v l.length (l.flatMap cells) ∧ ∀ x ∈ l, Att w w.heap.size x ∧ Ap w N x

theorem Fr.att {N : Nat} {w : World} {x : Tw} (h : Fr N w x) : Att w w.heap.size x := by
  obtain ⟨⟨hl, h⟩, hs⟩ := h
  rcases h with ⟨hv, hn⟩ | ⟨g, cap, cur, hv, hg, hh, hn, hm, hsz, ht⟩
  · injection hv with e1 e2 e3
    refine ⟨by omega, fun _ => e3, by rw [e3]; exact Nat.zero_le _, fun h0 => by omega, hs⟩
  · have hh0 : w.ownsRow N 46 2 (.slice x.A x.tk.attrs.length x.c) x.tk.attrs.length (x.tk.attrs.flatMap acells) := ⟨hl, .inr ⟨g, cap, cur, hv, hg, hh, hn, hm, hsz, ht⟩⟩
    injection hv with e1 _ e3
    refine ⟨by omega, (fun e => by rw [e] at e1; cases e1), by rw [e3]; exact hm, fun h0 => ⟨g, 0, e1, (Array.getElem?_eq_some_iff.1 hh).1, fun j hj i v hv => ?_⟩, hs⟩
    have hi : i < 2 := (List.getElem?_eq_some_iff.1 hv).1
    have := World.ownsRow.cells hh0 (g := g) (by rw [e1]; rfl) (j * 2 + i) v (by rw [flat_at acells 2 len_acells _ _ _ hj hi]; exact hv)
    rw [WideShapes.add_plain] at this
    rw [show 0 + j * 2 + i = 0 + (j * 2 + i) from by omega]
    exact this
theorem Fr.ap {N : Nat} {w : World} {x : Tw} (h : Fr N w x) : Ap w N x := fun h0 => by
  obtain ⟨⟨_, h⟩, _⟩ := h
  rcases h with ⟨hv, hn⟩ | ⟨g, cap, cur, hv, hg, hh, _⟩
  · omega
  · injection hv with e1
    exact ⟨g, 0, e1, .inr ⟨_, _, hh⟩⟩
theorem Fr.below {N M : Nat} {w w' : World} {x : Tw} (h : Fr N w x) (hb : Below M w w') (hM : w.heap.size ≤ M := by exact Nat.le_refl _) : Fr N w' x := by
  refine ⟨⟨h.1.1, ?_⟩, h.2⟩
  rcases h.1.2 with hn | ⟨g, cap, cur, hv, hg, hh, rest⟩
  · exact .inl hn
  · refine .inr ⟨g, cap, cur, hv, hg, ?_, rest⟩
    have hlt : g < w.heap.size := (Array.getElem?_eq_some_iff.1 hh).1
    rw [hb.block g (by omega)]
    exact hh
theorem Ap.below {N M : Nat} {w w' : World} {x : Tw} (h : Ap w N x) (hb : Below M w w') (hM : w.heap.size ≤ M := by exact Nat.le_refl _) : Ap w' N x := fun h0 => by
  obtain ⟨b, off, e, h⟩ := h h0
  refine ⟨b, off, e, ?_⟩
  rcases h with h | ⟨cs, fr, h⟩
  · exact .inl h
  · refine .inr ⟨cs, fr, ?_⟩
    have hlt : b < w.heap.size := (Array.getElem?_eq_some_iff.1 h).1
    rw [hb.block b (by omega)]
    exact h
theorem Att.apart {N : Nat} {w : World} {x : Tw} (h : Att w N x) : Ap w N x := fun h0 => by
  obtain ⟨b, off, e, hb, _⟩ := h.2.2.2.1 h0
  exact ⟨b, off, e, .inl hb⟩
theorem Ow.nil (N : Nat) (w : World) : Ow N w (.slice none 0 0) [] := ⟨World.ownsRow_nil w N _ 5, fun _ h => by simp at h⟩
theorem Ow.made (w : World) : Ow w.heap.size (w.alloc (.cells #[] 67)) (.slice (some ⟨w.heap.size, 0, none⟩) 0 0) [] :=
  ⟨World.ownsRow_made w #[] 0 (Nat.le_refl _) (Nat.zero_le _) rfl, fun _ h => by simp at h⟩
theorem Ow.below {N M : Nat} {w w' : World} {v : Value} {l : List Tw} (h : Ow N w v l) (hb : Below M w w') (hM : w.heap.size ≤ M := by exact Nat.le_refl _) : Ow N w' v l := by
  refine ⟨⟨h.1.1, ?_⟩, fun x hx => ⟨((h.2 x hx).1.below hb hM).more hb.size, (h.2 x hx).2.below hb hM⟩⟩
  rcases h.1.2 with hn | ⟨g, cap, cur, hv, hg, hh, rest⟩
  · exact .inl hn
  · refine .inr ⟨g, cap, cur, hv, hg, ?_, rest⟩
    have hlt : g < w.heap.size := (Array.getElem?_eq_some_iff.1 hh).1
    rw [hb.block g (by omega)]
    exact hh
theorem Ow.alloc {N : Nat} {w : World} {v : Value} {l : List Tw} (h : Ow N w v l) (o : Obj) : Ow N (w.alloc o) v l := h.below (below_new w o)
theorem Ow.mono {N N' : Nat} {w : World} {v : Value} {l : List Tw} (h : Ow N w v l) (hN : N' ≤ N) (hl : ∀ x ∈ l, Ap w N' x) : Ow N' w v l := ⟨World.ownsRow.mono h.1 hN, fun x hx => ⟨(h.2 x hx).1, hl x hx⟩⟩
/-- What a slice of the call's own is, and reads as. -/
theorem Ow.form {N : Nat} {w : World} {v : Value} {l : List Tw} (h : Ow N w v l) : ∃ A c, v = .slice A l.length c ∧ l.length ≤ c ∧ c ≤ maxLen ∧ (A = none → c = 0) ∧ Rr w w.heap.size A l := by
  rcases h.1.2 with ⟨hv, hl⟩ | ⟨g, cap, cur, hv, hg, hh, hn, hm, hs, ht⟩
  · have : l = [] := List.eq_nil_of_length_eq_zero hl
    subst this
    exact ⟨none, 0, hv, Nat.le_refl _, Nat.zero_le _, fun _ => rfl, Rr.nil _ _ _⟩
  · refine ⟨some ⟨g, 0, none⟩, cap, hv, hn, hm, (fun e => by cases e), fun _ => ⟨g, 0, rfl, (Array.getElem?_eq_some_iff.1 hh).1, fun j hj i u hu => ?_⟩, fun x hx => (h.2 x hx).1⟩
    have hi : i < 5 := (List.getElem?_eq_some_iff.1 hu).1
    subst hv
    have := World.ownsRow.cells h.1 (g := g) rfl (j * 5 + i) u (by rw [flat_at cells 5 len_cells _ _ _ hj hi]; exact hu)
    rw [WideShapes.add_plain] at this
    rw [show 0 + j * 5 + i = 0 + (j * 5 + i) from by omega]
    exact this

/-- A block of attributes is none of rows. -/
theorem block_ne {N n : Nat} {w : World} {v : Value} {xs : List Value} {b : Nat} {cs : Array Value} {fr : Nat × Nat} (h : w.ownsRow N 67 5 v n xs) (hb : w.heap[b]? = some (.cells cs 46 fr)) : some b ≠ v.ownBlock := by
  rcases h.2 with ⟨rfl, _⟩ | ⟨g, cap, cur, rfl, _, hh, _⟩
  · simp [Value.ownBlock]
  · intro e
    have e : b = g := by simpa [Value.ownBlock] using e
    subst e
    rw [hb] at hh
    injection hh with hh
    injection hh with _ ht
    exact absurd ht (by decide)
theorem low_ne {N n : Nat} {w : World} {v : Value} {xs : List Value} {b : Nat} (h : w.ownsRow N 67 5 v n xs) (hb : b < N) : some b ≠ v.ownBlock := fun e => by
  have := (World.ownsRow.lt h b e.symm).1
  omega
theorem Att.grown {N n : Nat} {w w' : World} {v : Value} {xs : List Value} {y : Tw} (h : w.ownsRow N 67 5 v n xs) (hg : w.grownBy w' v.ownBlock) (hy : Att w w.heap.size y) (ha : Ap w N y) : Att w' w'.heap.size y := by
  refine ⟨hy.1, hy.2.1, hy.2.2.1, fun h0 => ?_, hy.2.2.2.2⟩
  obtain ⟨b, off, e, hb, hc⟩ := hy.2.2.2.1 h0
  obtain ⟨b', off', e', ha⟩ := ha h0
  rw [e] at e'
  injection e' with e'
  injection e' with e1 e2
  subst e1 e2
  have hne : some b ≠ v.ownBlock := by
    rcases ha with ha | ⟨cs, fr, ha⟩
    · exact low_ne h ha
    · exact block_ne h ha
  exact ⟨b, off, e, Nat.lt_of_lt_of_le hb hg.size, fun j hj => range_keep (hc j hj) fun o => World.cell?_of_block (a := ⟨b, o, none⟩) (hg.block b hb hne)⟩
theorem Ap.grown {N n : Nat} {w w' : World} {v : Value} {xs : List Value} {y : Tw} (h : w.ownsRow N 67 5 v n xs) (hg : w.grownBy w' v.ownBlock) (ha : Ap w N y) : Ap w' N y := fun h0 => by
  obtain ⟨b, off, e, ha⟩ := ha h0
  refine ⟨b, off, e, ?_⟩
  rcases ha with ha | ⟨cs, fr, ha⟩
  · exact .inl ha
  · exact .inr ⟨cs, fr, (hg.block b (Array.getElem?_eq_some_iff.1 ha).1 (block_ne h ha)).trans ha⟩
theorem Fr.grown {N n : Nat} {w w' : World} {v : Value} {xs : List Value} {y : Tw} (h : w.ownsRow N 67 5 v n xs) (hg : w.grownBy w' v.ownBlock) (hy : Fr N w y) : Fr N w' y := by
  refine ⟨⟨hy.1.1, ?_⟩, hy.2⟩
  rcases hy.1.2 with hn | ⟨g, cap, cur, hv, hg', hh, rest⟩
  · exact .inl hn
  · exact .inr ⟨g, cap, cur, hv, hg', (hg.block g (Array.getElem?_eq_some_iff.1 hh).1 (block_ne h hh)).trans hh, rest⟩

theorem tok_cells_new (w : World) (x : Tw) : ∀ j u, (cells x)[j]? = some u → (w.alloc (tokO x)).cell? ((⟨w.heap.size, 0, none⟩ : Addr).add j) = some u := fun j u hu => by
  rw [WideShapes.add_plain, Nat.zero_add]
  exact (box_at w x j).trans hu
theorem cells_one (x : Tw) : ∀ u ∈ cells x, u.oneCell' = true := by
  intro u hu
  simp only [cells, List.mem_cons, List.not_mem_nil, or_false] at hu
  rcases hu with rfl | rfl | rfl | rfl | rfl <;> rfl
end Go.Proofs.YtenmlpfjeohkiaaGreatDoor.To

namespace Go.Proofs.YtenmlpfjeohkiaaGreatDoor.Ba
set_option maxRecDepth 100000
set_option linter.unusedSimpArgs false
set_option linter.unusedVariables false
open Go.RowKit
def bc (b : UInt8) : Value := .int .u8 b.toNat
/-- v is a slice of bytes of the call's own that holds l. -/
def OwnB (N : Nat) (w : World) (v : Value) (l : List UInt8) : Prop := w.ownsRow N 5 1 v l.length (l.map bc)
theorem info_u8 : (Tryz.prog.info? 5).map (fun i => (i.zero, i.size, i.bytes)) = some (some (.int .u8 0), 1, 1) := by kernel_rfl
theorem OwnB.alloc {N : Nat} {w : World} {v : Value} {l : List UInt8} (h : OwnB N w v l) (o : Obj) : OwnB N (w.alloc o) v l := World.ownsRow.alloc h o
theorem OwnB.below {N : Nat} {w0 w w' : World} {v : Value} {l : List UInt8} (h : OwnB N w v l) (hg : w.grownBy w' v.ownBlock) (hb : Below N w0 w) (hN : N ≤ w.heap.size) : Below N w0 w' :=
  hb.grown hg hN fun k hk => (h.lt k hk).1
theorem OwnB.keep {N M : Nat} {w w' : World} {v : Value} {l : List UInt8} (h : OwnB N w v l) (hb : Below M w w') (hM : w.heap.size ≤ M := by exact Nat.le_refl _) : OwnB N w' v l := by
  refine ⟨h.1, ?_⟩
  rcases h.2 with hn | ⟨g, cap, cur, hv, hg, hh, rest⟩
  · exact .inl hn
  · refine .inr ⟨g, cap, cur, hv, hg, ?_, rest⟩
    have hlt : g < w.heap.size := (Array.getElem?_eq_some_iff.1 hh).1
    rw [hb.block g (by omega)]
    exact hh
theorem OwnB.made (w : World) : OwnB w.heap.size (w.alloc (.cells #[] 5)) (.slice (some ⟨w.heap.size, 0, none⟩) 0 0) [] :=
  World.ownsRow_made w #[] 0 (Nat.le_refl _) (Nat.zero_le _) rfl
theorem OwnB.string {N : Nat} {w : World} {v : Value} {l : List UInt8} (h : OwnB N w v l) : (convert 48 9 v).run Tryz.prog w = .ok (.string (B l)) w := by
  rcases h.2 with ⟨hv, hl⟩ | ⟨g, cap, cur, hv, hb, hgg, rest⟩
  · have : l = [] := List.eq_nil_of_length_eq_zero hl
    subst this hv
    rw [run_convert_bytes_string w _ _ _ none 0 0 Tryz.underlying48 Tryz.underlying5 Tryz.underlying9]
    rfl
  · subst hv
    exact run_convert_bytes_back w _ _ _ ⟨g, 0, none⟩ cap l Tryz.underlying48 Tryz.underlying5 Tryz.underlying9 fun j hj => World.ownsRow.cells h rfl j _ (by simp [bc, hj])
theorem OwnB.appended {N : Nat} {w : World} {v : Value} {l m : List UInt8} {n : Nat} (h : w.ownsRow N 5 1 v n (l.map bc ++ m.map bc)) (hn : n = l.length + m.length) : OwnB N w v (l ++ m) := by
  unfold OwnB
  rw [List.map_append, List.length_append, ← hn]
  exact h
/-- append of one byte, in a block of its own. -/
theorem app_byte {ops : Array Oper} {rest : List Oper} {o : Oper} {a : Act} {Q : Exit → Act → World → Prop} (w : World) (hgd : o.guard = none) (s x : Operand)
    (ho : o.op = .call { callee := .builtin .append, args := #[s, x], argTypes := #[48, 48] })
    (N : Nat) (v : Value) (l : List UInt8) (y : UInt8) (hs : a.eval s = v) (hown : OwnB N w v l) (hx : a.eval x = .slice (some ⟨w.heap.size, 0, none⟩) 1 1)
    (hl : l.length + 1 ≤ 140737488355328) (hN : N ≤ w.heap.size)
    (h : ∀ v' w', OwnB N w' v' (l ++ [y]) → (∀ w0, Below N w0 w → Below N w0 w') → wpList Tryz.prog ops Q rest (a.put o.dst v') w') :
    wpList Tryz.prog ops Q (o :: rest) a (w.alloc (.cells #[.int .u8 y.toNat] 5)) := by
  obtain ⟨i0, hi, hz0, hz1, hz2⟩ := info_parts info_u8
  have hown' : OwnB N (w.alloc (.cells #[.int .u8 y.toNat] 5)) v l := hown.alloc _
  have hsz : (w.alloc (.cells #[.int .u8 y.toNat] 5)).heap.size = w.heap.size + 1 := by simp
  refine wpList_append_own _ hgd s x 48 ho N 5 i0 (.int .u8 0) 1 1 Tryz.underlying48 hi hz0 hz1 hz2 rfl (by decide) v l.length (l.map bc) hs hown' ⟨w.heap.size, 0, none⟩ 1 1 [.int .u8 y.toNat] hx rfl (cell_one_new _ _ _) (by intro u hu; simp at hu; subst hu; rfl) (by unfold maxLen; omega) (by omega) (by omega) ?_
  intro v' w' ho2 hg2 _
  exact h v' w' (OwnB.appended (m := [y]) ho2 rfl) fun w0 hb => hown'.below hg2 (hb.alloc hN _) (by omega)

theorem strCells_b (s : ByteArray) : Lib.strCells s = (L s).map bc := rfl
/-- append of a string's bytes onto bytes of the call's own. -/
theorem app_strb {ops : Array Oper} {rest : List Oper} {o : Oper} {a : Act} {Q : Exit → Act → World → Prop} (w : World) (hgd : o.guard = none) (s x : Operand)
    (ho : o.op = .call { callee := .builtin .append, args := #[s, x], argTypes := #[48, 9] })
    (N : Nat) (v : Value) (l : List UInt8) (t : ByteArray) (hs : a.eval s = v) (hown : OwnB N w v l) (hx : a.eval x = .string t)
    (hl : l.length + t.size ≤ 140737488355328) (hN : N ≤ w.heap.size)
    (h : ∀ v' w', OwnB N w' v' (l ++ L t) → (∀ w0, Below N w0 w → Below N w0 w') → wpList Tryz.prog ops Q rest (a.put o.dst v') w') :
    wpList Tryz.prog ops Q (o :: rest) a w := by
  obtain ⟨i0, hi, hz0, hz1, hz2⟩ := info_parts info_u8
  refine Lib.wpList_append_own_string _ hgd s x 48 9 ho N 5 i0 Tryz.underlying48 Tryz.underlying9 hi hz0 hz1 hz2 v l.length (l.map bc) hs hown t hx (by unfold maxLen; omega) hl hN ?_
  intro v2 w2 hown2 hgrow2 _
  refine h v2 w2 ?_ fun w0 hb => hown.below hgrow2 hb hN
  rw [strCells_b] at hown2
  exact OwnB.appended hown2 (by rw [size_L])
theorem OwnB.nil (N : Nat) (w : World) : OwnB N w (.slice none 0 0) [] := World.ownsRow_nil w N _ 1

end Go.Proofs.YtenmlpfjeohkiaaGreatDoor.Ba

namespace Go.Proofs.YtenmlpfjeohkiaaGreatDoor.Fo
set_option maxRecDepth 100000
set_option linter.unusedSimpArgs false
set_option linter.unusedVariables false
open Go.RowKit Ba Fm
theorem space_any (c : UInt8) (w : World) :
    Calls Tryz.prog 107 #[.int .u8 c.toNat] w fun e w' => e = .returned (.bool (sp c)) ∧ w = w' := by
  have e9 : ((c.toNat : Int) == 9) = (c == 9) := u8_eq (b := 9)
  have e10 : ((c.toNat : Int) == 10) = (c == 10) := u8_eq (b := 10)
  have e12 : ((c.toNat : Int) == 12) = (c == 12) := u8_eq (b := 12)
  have e13 : ((c.toNat : Int) == 13) = (c == 13) := u8_eq (b := 13)
  have e32 : ((c.toNat : Int) == 32) = (c == 32) := u8_eq (b := 32)
  cases h9 : (c == 9) <;> cases h10 : (c == 10) <;> cases h12 : (c == 12) <;> cases h13 : (c == 13) <;> cases h32 : (c == 32)
  all_goals
    rw [h9] at e9
    rw [h10] at e10
    rw [h12] at e12
    rw [h13] at e13
    rw [h32] at e32
    have H9 := Lib.hid h9; have H10 := Lib.hid h10; have H12 := Lib.hid h12; have H13 := Lib.hid h13; have H32 := Lib.hid h32
    clear h9 h10 h12 h13 h32
    go_enter Tryz.func107, Tryz.ntmps107
    go_wp2
    go_ret
    exact ⟨ret_bool (by unfold sp; rw [H9.out, H10.out, H12.out, H13.out, H32.out]; rfl), rfl⟩

end Go.Proofs.YtenmlpfjeohkiaaGreatDoor.Fo

namespace Go.Proofs.YtenmlpfjeohkiaaGreatDoor.Fo
set_option linter.unusedSimpArgs false
set_option linter.unusedVariables false
open Go.RowKit Ba Fm
end Go.Proofs.YtenmlpfjeohkiaaGreatDoor.Fo

namespace Go.Proofs.YtenmlpfjeohkiaaGreatDoor.Fo
set_option maxRecDepth 100000
set_option linter.unusedSimpArgs false
set_option linter.unusedVariables false
open Go.RowKit Ba Fm

theorem lowerByte_any (c : UInt8) (w : World) :
    Calls Tryz.prog 117 #[.int .u8 c.toNat] w fun e w' => e = .returned (.int .u8 (low c).toNat) ∧ w = w' := by
  have hc := c.toNat_lt
  by_cases h1 : 65 ≤ c.toNat
  · by_cases h2 : c.toNat ≤ 90
    · have hl : ((low c).toNat : Int) = c.toNat + 32 := by
        unfold low
        rw [if_pos ⟨UInt8.le_iff_toNat_le.2 h1, UInt8.le_iff_toNat_le.2 h2⟩, UInt8.toNat_add]
        simp
        omega
      have HL := Lib.hid hl; clear hl
      go_enter Tryz.func117, Tryz.ntmps117
      go_wp2
      go_ret
      exact ⟨ret_int (by rw [HL.out]; omega), rfl⟩
    · have hl : low c = c := by
        unfold low
        rw [if_neg]
        rintro ⟨_, h⟩
        exact h2 (UInt8.le_iff_toNat_le.1 h)
      have HL := Lib.hid hl; clear hl
      go_enter Tryz.func117, Tryz.ntmps117
      go_wp2
      go_ret
      exact ⟨ret_int (by rw [HL.out]), rfl⟩
  · have hl : low c = c := by
      unfold low
      rw [if_neg]
      rintro ⟨h, _⟩
      exact h1 (UInt8.le_iff_toNat_le.1 h)
    have HL := Lib.hid hl; clear hl
    go_enter Tryz.func117, Tryz.ntmps117
    go_wp2
    go_ret
    exact ⟨ret_int (by rw [HL.out]), rfl⟩

theorem letter_any (c : UInt8) (w : World) :
    Calls Tryz.prog 100 #[.int .u8 c.toNat] w fun e w' => e = .returned (.bool (lr c)) ∧ w = w' := by
  have hc := c.toNat_lt
  have hl := (low c).toNat_lt
  have hv : lr c = (decide ((97 : Int) ≤ (low c).toNat) && decide (((low c).toNat : Int) ≤ 122)) := by
    have hlow : ((low c).toNat : Int) = if 65 ≤ c.toNat ∧ c.toNat ≤ 90 then c.toNat + 32 else c.toNat := by
      unfold low
      have e1 : (65 ≤ c ∧ c ≤ 90) ↔ (65 ≤ c.toNat ∧ c.toNat ≤ 90) := by rw [UInt8.le_iff_toNat_le, UInt8.le_iff_toNat_le]; exact Iff.rfl
      by_cases h : 65 ≤ c.toNat ∧ c.toNat ≤ 90
      · rw [if_pos (e1.2 h), if_pos h, UInt8.toNat_add]; simp; omega
      · rw [if_neg (fun q => h (e1.1 q)), if_neg h]
    unfold lr
    rw [hlow, Bool.eq_iff_iff]
    simp only [Bool.or_eq_true, Bool.and_eq_true, decide_eq_true_eq, UInt8.le_iff_toNat_le]
    have e65 : (65 : UInt8).toNat = 65 := rfl
    have e90 : (90 : UInt8).toNat = 90 := rfl
    have e97 : (97 : UInt8).toNat = 97 := rfl
    have e122 : (122 : UInt8).toNat = 122 := rfl
    rw [e65, e90, e97, e122]
    split <;> omega
  have HV := Lib.hid hv; clear hv hc
  by_cases h1 : (97 : Int) ≤ (low c).toNat
  · by_cases h2 : ((low c).toNat : Int) ≤ 122
    · go_enter Tryz.func100, Tryz.ntmps100
      go_wp2_with (go_at_call 117; refine (lowerByte_any c _).mono ?_; rintro e w' ⟨rfl, rfl⟩)
      go_ret
      exact ⟨ret_bool (by rw [HV.out]; simp [h1, h2]), rfl⟩
    · go_enter Tryz.func100, Tryz.ntmps100
      go_wp2_with (go_at_call 117; refine (lowerByte_any c _).mono ?_; rintro e w' ⟨rfl, rfl⟩)
      go_ret
      exact ⟨ret_bool (by rw [HV.out]; simp [h1, h2]), rfl⟩
  · go_enter Tryz.func100, Tryz.ntmps100
    go_wp2_with (go_at_call 117; refine (lowerByte_any c _).mono ?_; rintro e w' ⟨rfl, rfl⟩)
    go_ret
    exact ⟨ret_bool (by rw [HV.out, decide_eq_false (by omega)]; rfl), rfl⟩

set_option maxHeartbeats 1000000 in
theorem lower_any (s : ByteArray) (w : World) (hs : s.size ≤ 140737488355328) :
    Calls Tryz.prog 103 #[.string s] w fun e w' => e = .returned (.string (B (lowL (L s)))) ∧ Below w.heap.size w w' := by
  obtain ⟨i0, hi, hz0, hz1, hz2⟩ := info_parts info_u8
  go_enter Tryz.func103, Tryz.ntmps103
  go_wp2_with (at_make; refine wpList_make_own _ rfl (.const (.int .i64 0)) (.tmp 6) 48 rfl w.heap.size 5 i0 (.int .u8 0) 1 Tryz.underlying48 hi hz0 hz1 .i64 .i64 _ s.size rfl rfl rfl (by rw [hz2]; omega) (by unfold maxLen; omega) (Nat.le_refl _) ?_; intro w1 hown hgrow)
  have hb0 : Below w.heap.size w w1 := (Below.refl w.heap.size w).grown hgrow (Nat.le_refl _) (by simp)
  have ho0 : OwnB w.heap.size w1 (.slice (some ⟨w.heap.size, 0, none⟩) 0 s.size) [] := hown
  clear hown hgrow
  go_loopw [3, 10] (fun v i wr => ∃ (k : Nat), i = .int .i64 k ∧ k ≤ s.size ∧ OwnB w.heap.size wr v (lowL ((L s).take k)) ∧ Below w.heap.size w wr) (fun _ i _ => s.size - (intOf i).toNat)
  case atStart => exact ⟨0, rfl, Nat.zero_le _, ho0, hb0⟩
  case round =>
    clear ho0 hb0
    obtain ⟨k, rfl, hks, hown, hbel⟩ := hrel
    have hN := hbel.size
    by_cases hp : k < s.size
    · have hlen : (lowL ((L s).take k)).length + 1 ≤ 140737488355328 := by rw [len_lowL, List.length_take, size_L]; omega
      go_wp2_with (first | (go_at_call 117; refine (lowerByte_any s[k] _).mono ?_; rintro e w' ⟨rfl, rfl⟩) | (at_builtin; refine app_byte wr rfl (.tmp 13) (.tmp 18) rfl w.heap.size _ (lowL ((L s).take k)) (low s[k]) rfl hown rfl hlen hN ?_; intro v2 w2 hown2 hk2))
      go_roundw
      case rel =>
        refine ⟨k + 1, by go_num, by omega, ?_, hk2 _ hbel⟩
        rw [take_snoc s k hp, lowL_append]
        exact hown2
      case measure => simp [intOf]; omega
    · have hcv := hown.string
      go_wp2
      go_ret
      refine ⟨ret_str ?_, hbel⟩
      rw [List.take_of_length_le (by rw [size_L]; omega)]

theorem same_any (a b : ByteArray) (w : World) (ha : a.size ≤ 140737488355328) (hb : b.size ≤ 140737488355328) :
    Calls Tryz.prog 113 #[.string a, .string b] w fun e w' => e = .returned (.bool (decide (lowL (L a) = lowL (L b)))) ∧ Below w.heap.size w w' := by
  go_enter Tryz.func113, Tryz.ntmps113
  go_wp2_with fail
  refine (lower_any a _ ha).mono ?_
  rintro e w1 ⟨rfl, hb1⟩
  go_wp2_with fail
  refine (lower_any b _ hb).mono ?_
  rintro e w2 ⟨rfl, hb2⟩
  go_wp2
  go_ret
  refine ⟨ret_bool ?_, bt hb1 hb2⟩
  rw [eq_of_toList]
  exact decide_eq_decide.2 ⟨B_inj, fun h => by rw [h]⟩

theorem trim_cut (s : ByteArray) (k m : Nat) (hkm : k < m) (hm : m ≤ s.size) : ((L s).drop k).take (m - k) = ((L s).drop k).take (m - 1 - k) ++ [s[m - 1]'(by omega)] := by
  have e : m - k = (m - 1 - k) + 1 := by omega
  rw [e, List.take_succ_eq_append_getElem (by rw [List.length_drop, size_L]; omega)]
  congr 2
  rw [List.getElem_drop]
  have : k + (m - 1 - k) = m - 1 := by omega
  simp only [this]
  rfl

set_option maxHeartbeats 1000000 in
theorem trim_any (s : ByteArray) (w : World) (hs : s.size ≤ 140737488355328) :
    Calls Tryz.prog 82 #[.string s] w fun e w' => e = .returned (.string (B (trimL (L s)))) ∧ w = w' := by
  go_enter Tryz.func82, Tryz.ntmps82
  go_wp2
  go_loop [3] (fun i => ∃ k : Nat, i = .int .i64 k ∧ k ≤ s.size ∧ trimS ((L s).drop k) = trimS (L s)) (fun i => s.size - (intOf i).toNat)
  case atStart => exact ⟨0, rfl, Nat.zero_le _, by simp⟩
  case round =>
    obtain ⟨k, rfl, hks, hc⟩ := hrel
    by_cases hp : k < s.size
    · rw [drop_cons s k hp] at hc
      cases hsp : sp s[k] with
      | true =>
        rw [trimS_sp _ hsp] at hc
        have HC := Lib.hid hc; have HS := Lib.hid hsp; clear hc hsp
        go_wp2_with (go_at_call 107; refine (space_any s[k] _).mono ?_; rw [HS.out]; rintro e w' ⟨rfl, rfl⟩)
        go_round
        case rel => exact ⟨k + 1, by go_num, by omega, HC.out⟩
        case measure => simp [intOf]; omega
      | false =>
        rw [trimS_no _ hsp, ← drop_cons s k hp] at hc
        have HC := Lib.hid hc; have HS := Lib.hid hsp; clear hc hsp
        go_wp2_with (go_at_call 107; refine (space_any s[k] _).mono ?_; rw [HS.out]; rintro e w' ⟨rfl, rfl⟩)
        go_loop [4] (fun i => ∃ m : Nat, i = .int .i64 m ∧ k ≤ m ∧ m ≤ s.size ∧ trimE (((L s).drop k).take (m - k)) = trimE ((L s).drop k)) (fun i => (intOf i).toNat)
        case atStart => exact ⟨s.size, rfl, hks, Nat.le_refl _, by rw [List.take_of_length_le (by rw [List.length_drop, size_L]; omega)]⟩
        case round =>
          obtain ⟨m, rfl, hkm, hms, hd⟩ := hrel
          by_cases hq : k < m
          · have hcut := trim_cut s k m hq hms
            cases hsq : sp (s[m - 1]'(by omega)) with
            | true =>
              rw [hcut, trimE_sp _ hsq] at hd
              have HD := Lib.hid hd; have HQ := Lib.hid hsq; clear hd hsq hcut
              have hm1 : 1 ≤ m := by omega
              obtain ⟨j, rfl⟩ : ∃ j, m = j + 1 := ⟨m - 1, by omega⟩
              go_wp2_with (go_at_call 107; refine (space_any (s[j]'(by omega)) _).mono ?_; rw [show sp (s[j]'(by omega)) = true from HQ.out]; rintro e w' ⟨rfl, rfl⟩)
              go_round
              case rel => exact ⟨j, by go_num, by omega, by omega, HD.out⟩
              case measure => simp [intOf]
            | false =>
              rw [hcut, trimE_no _ hsq, ← hcut] at hd
              have HD := Lib.hid hd; have HQ := Lib.hid hsq; clear hd hsq hcut
              obtain ⟨j, rfl⟩ : ∃ j, m = j + 1 := ⟨m - 1, by omega⟩
              go_wp2_with (go_at_call 107; refine (space_any (s[j]'(by omega)) _).mono ?_; rw [show sp (s[j]'(by omega)) = false from HQ.out]; rintro e w' ⟨rfl, rfl⟩)
              go_ret
              refine ⟨ret_str (B_of ?_), rfl⟩
              rw [L_extract, HD.out, trimL, ← HC.out]
          · have HD := Lib.hid hd; clear hd
            go_wp2
            go_ret
            refine ⟨ret_str (B_of ?_), rfl⟩
            have h1 := HD.out
            obtain rfl : m = k := by omega
            rw [Nat.sub_self, List.take_zero] at h1
            rw [L_extract, Nat.sub_self, List.take_zero, trimL, ← HC.out, ← h1, trimE_nil]
    · have HC := Lib.hid hc; clear hc
      go_wp2
      go_loop [4] (fun i => i = .int .i64 s.size) (fun _ => 0)
      case atStart => exact rfl
      case round =>
        subst hrel
        go_wp2
        go_ret
        refine ⟨ret_str (B_of ?_), rfl⟩
        have h1 := HC.out
        rw [drop_nil s k hp] at h1
        rw [L_extract, drop_nil s k hp, trimL, ← h1]
        simp [trimS_nil, trimE_nil]

/-- Block g holds these bytes, as a string's conversion lays them. -/
def Raw (w : World) (g : Nat) (l : List UInt8) : Prop := ∃ cs : Array Value, w.heap[g]? = some (.cells cs 5 (cs.size, cs.size + 1)) ∧ l.length ≤ cs.size ∧ ∀ j (h : j < l.length), cs[j]? = some (bc l[j])

theorem Raw.cell {w : World} {g : Nat} {l : List UInt8} (h : Raw w g l) (j : Nat) (hj : j < l.length) : w.cell? ⟨g, j, none⟩ = some (.int .u8 (l[j].toNat : Int)) := by
  obtain ⟨cs, hg, _, hc⟩ := h
  rw [cell_of_row w g j cs _ _ hg, hc j hj]
  rfl
theorem Raw.frozen {w : World} {g : Nat} {l : List UInt8} (h : Raw w g l) (j : Nat) (hj : j < l.length) : w.frozen? ⟨g, j, none⟩ = false := by
  obtain ⟨cs, hg, hl, _⟩ := h
  simp [World.frozen?, hg]
  omega
theorem Raw.set {w : World} {g : Nat} {l : List UInt8} (h : Raw w g l) (j : Nat) (y : UInt8) : Raw (w.setCell ⟨g, j, none⟩ (.int .u8 (y.toNat : Int))) g (l.set j y) := by
  obtain ⟨cs, hg, hl, hc⟩ := h
  refine ⟨cs.setIfInBounds j (.int .u8 (y.toNat : Int)), ?_, by simpa using hl, fun i hi => ?_⟩
  · simp [World.setCell, Array.getElem?_modify, hg]
  · rw [List.length_set] at hi
    rw [Array.getElem?_setIfInBounds, List.getElem_set]
    by_cases hij : j = i
    · subst hij
      simp [bc]
      omega
    · simp [hij, hc i hi]
theorem Raw.string {w : World} {g c : Nat} {l : List UInt8} (h : Raw w g l) : (convert 48 9 (.slice (some ⟨g, 0, none⟩) l.length c)).run Tryz.prog w = .ok (.string (B l)) w :=
  run_convert_bytes_back w _ _ _ ⟨g, 0, none⟩ c l Tryz.underlying48 Tryz.underlying5 Tryz.underlying9 fun j hj => by
    rw [WideShapes.add_plain, Nat.zero_add]
    exact h.cell j hj
theorem Raw.new (w : World) (s : ByteArray) : Raw (Lib.bytesWorld w 5 s) w.heap.size (L s) := by
  refine ⟨_, Lib.bytesWorld_at_new w _ s, ?_, fun j hj => ?_⟩
  · unfold Lib.bytesCells
    rw [size_L]
    simp
  · rw [size_L] at hj
    simp [Lib.bytesCells, Array.getElem?_append, hj, bc]
end Go.Proofs.YtenmlpfjeohkiaaGreatDoor.Fo

namespace Go.Proofs.YtenmlpfjeohkiaaGreatDoor.Re
set_option maxRecDepth 100000
set_option linter.unusedSimpArgs false
set_option linter.unusedVariables false
open Go.RowKit Ba Rm
theorem below_new (w : World) (o : Obj) : Below w.heap.size w (w.alloc o) := (Below.refl _ _).alloc (Nat.le_refl _) _

theorem valid_of (m : Nat) (h : m < 1114112) (hs : ¬ (55296 ≤ m ∧ m ≤ 57343)) : Utf8.valid (m : Int) = true := by
  unfold Utf8.valid
  simp only [Bool.or_eq_true, Bool.and_eq_true, decide_eq_true_eq]
  omega
theorem enc_eq (m : Nat) (h : m < 1114112) (hs : ¬ (55296 ≤ m ∧ m ≤ 57343)) : Utf8.encode (m : Int) = B (enc m) := by
  have hv := valid_of m h hs
  unfold Utf8.encode enc
  rw [hv]
  simp only [if_true, Int.toNat_natCast]
  clear hv h hs
  by_cases h0 : m < 128
  · rw [if_pos h0, if_pos h0]; rfl
  by_cases h1 : m < 2048
  · rw [if_neg h0, if_pos h1, if_neg h0, if_pos h1]; rfl
  by_cases h2 : m < 65536
  · rw [if_neg h0, if_neg h1, if_pos h2, if_neg h0, if_neg h1, if_pos h2]; rfl
  · rw [if_neg h0, if_neg h1, if_neg h2, if_neg h0, if_neg h1, if_neg h2]; rfl

theorem code_any (n : Int) (w : World) (hn : (Lit.int .i64 n).wf = true) : Calls Tryz.prog 123 #[.int .i64 n] w fun e w' => e = .returned (.string (B (code n))) ∧ w = w' := by
  by_cases hb : n < 1 ∨ 1114111 < n ∨ (55296 ≤ n ∧ n ≤ 57343)
  · have hc : code n = [239, 191, 189] := by
      have : bad n = true := by unfold bad; rcases hb with h | h | ⟨h1, h2⟩ <;> simp [*]
      unfold code
      rw [if_pos this]
    rw [hc]
    rcases hb with h | h | ⟨h1, h2⟩
    all_goals
      go_enter Tryz.func123, Tryz.ntmps123
      go_wp2
      go_ret
      exact ⟨rfl, rfl⟩
  · have hbad : bad n = false := by
      unfold bad
      simp only [Bool.or_eq_false_iff, decide_eq_false_iff_not, Bool.and_eq_false_iff]
      omega
    by_cases h13 : n = 13
    · subst h13
      go_enter Tryz.func123, Tryz.ntmps123
      go_wp2
      go_ret
      exact ⟨rfl, rfl⟩
    · obtain ⟨m, rfl⟩ : ∃ m : Nat, n = m := ⟨n.toNat, by omega⟩
      have hc : code m = enc m := by
        unfold code
        rw [hbad, if_neg (by simp), if_neg h13]
        rfl
      rw [hc, ← enc_eq m (by omega) (by omega)]
      clear hc hbad hn
      have h1 : ¬ (m : Int) < 1 := by omega
      have h2 : ¬ 1114111 < (m : Int) := by omega
      by_cases h3 : 55296 ≤ (m : Int)
      · have h4 : ¬ (m : Int) ≤ 57343 := by omega
        clear hb
        go_enter Tryz.func123, Tryz.ntmps123
        go_wp2
        go_ret
        exact ⟨rfl, rfl⟩
      · clear hb
        go_enter Tryz.func123, Tryz.ntmps123
        go_wp2
        go_ret
        exact ⟨rfl, rfl⟩

end Go.Proofs.YtenmlpfjeohkiaaGreatDoor.Re

namespace Go.Proofs.YtenmlpfjeohkiaaGreatDoor.Re
set_option maxRecDepth 100000
set_option linter.unusedSimpArgs false
set_option linter.unusedVariables false
open Go.RowKit Ba Rm
def digI (x : Int) : Int := if 48 ≤ x ∧ x ≤ 57 then x - 48 else if 97 ≤ x ∧ x ≤ 102 then x - 87 else if 65 ≤ x ∧ x ≤ 70 then x - 55 else -1
theorem dig_eq (c : UInt8) : digI c.toNat = dig c := by
  unfold digI dig
  repeat' split
  all_goals omega
theorem digI_far (x : Int) (h : 128 ≤ x) : digI x = -1 := by
  unfold digI
  repeat' split
  all_goals omega
theorem seven (x : Int) : x < 48 ∨ (48 ≤ x ∧ x ≤ 57) ∨ (57 < x ∧ x < 65) ∨ (65 ≤ x ∧ x ≤ 70) ∨ (70 < x ∧ x < 97) ∨ (97 ≤ x ∧ x ≤ 102) ∨ 102 < x := by omega

set_option maxHeartbeats 1000000 in
theorem digit_any (r : Int) (h0 : 0 ≤ r) (h1 : r ≤ 1114111) (w : World) : Calls Tryz.prog 122 #[.int .i32 r] w fun e w' => e = .returned (.int .i64 (digI r)) ∧ w = w' := by
  rcases seven r with h | ⟨h, h'⟩ | ⟨h, h'⟩ | ⟨h, h'⟩ | ⟨h, h'⟩ | ⟨h, h'⟩ | h
  all_goals
    go_enter Tryz.func122, Tryz.ntmps122
    go_wp2
    go_ret
    refine ⟨ret_int ?_, rfl⟩
    unfold digI
    repeat' split
    all_goals omega

theorem ret_sb {a b : ByteArray} {x y : Bool} (h : a = b) (k : x = y) : Ending.returned (.tuple #[.string a, .bool x]) = .returned (.tuple #[.string b, .bool y]) := by rw [h, k]
theorem u8_ne {a b : UInt8} (h : a ≠ b) : (((a.toNat : Int)) == (b.toNat : Int)) = false := by rw [u8_eq]; simpa using h

theorem bodyOf_any (s : ByteArray) (w : World) (hs : s.size ≤ 140737488355328) : Calls Tryz.prog 98 #[.string s] w fun e w' => e = .returned (.tuple #[.string (B ((bod (L s)).getD [])), .bool (bod (L s)).isSome]) ∧ w = w' := by
  go_enter Tryz.func98, Tryz.ntmps98
  go_wp2
  go_loop [7] (fun i => ∃ k : Nat, i = .int .i64 k ∧ k ≤ s.size ∧ bod (L s) = (bod ((L s).drop k)).map ((L s).take k ++ ·)) (fun i => s.size - (intOf i).toNat)
  case atStart => exact ⟨0, rfl, Nat.zero_le _, by rw [List.drop_zero, List.take_zero]; cases bod (L s) <;> rfl⟩
  case round =>
    obtain ⟨k, rfl, hks, hc⟩ := hrel
    by_cases hp : k < s.size
    · rw [drop_cons s k hp] at hc
      by_cases he : s[k] = 59
      · have hb : (((s[k].toNat : Int)) == 59) = true := by rw [he]; rfl
        rw [bod, if_pos he] at hc
        have HC := Lib.hid hc; clear hc he
        go_wp2
        go_ret2
        refine ⟨ret_sb ?_ ?_, rfl⟩
        · rw [HC.out]
          exact B_of (by rw [L_extract]; simp)
        · rw [HC.out]; rfl
      · have hb : (((s[k].toNat : Int)) == 59) = false := u8_ne (b := 59) he
        by_cases h8 : s[k] = 38
        · have hb8 : (((s[k].toNat : Int)) == 38) = true := by rw [h8]; rfl
          rw [bod, if_neg he, if_pos h8] at hc
          have HC := Lib.hid hc; clear hc he h8
          go_wp2
          go_ret2
          refine ⟨ret_sb ?_ ?_, rfl⟩
          · rw [HC.out]; rfl
          · rw [HC.out]; rfl
        · have hb8 : (((s[k].toNat : Int)) == 38) = false := u8_ne (b := 38) h8
          rw [bod, if_neg he, if_neg h8] at hc
          have HC := Lib.hid hc; clear hc he h8
          go_wp2
          go_round
          case rel =>
            refine ⟨k + 1, by go_num, by omega, ?_⟩
            rw [HC.out, take_snoc s k hp]
            cases bod ((L s).drop (k + 1)) <;> simp
          case measure => simp [intOf]; omega
    · rw [drop_nil s k hp] at hc
      have HC := Lib.hid hc; clear hc
      go_wp2
      go_ret2
      refine ⟨ret_sb ?_ ?_, rfl⟩
      · rw [HC.out]; rfl
      · rw [HC.out]; rfl

/-- A body's kind: by its name, decimal, hexadecimal. -/
def knd (l : List UInt8) : Int := if l.head? = some 35 then (if l[1]? = some 120 ∨ l[1]? = some 88 then 2 else 1) else 0
def rst (l : List UInt8) : List UInt8 := if l.head? = some 35 then (if l[1]? = some 120 ∨ l[1]? = some 88 then l.drop 2 else l.drop 1) else l
theorem L_at (s : ByteArray) (k : Nat) (h : k < s.size) : (L s)[k]? = some s[k] := by
  rw [List.getElem?_eq_getElem (by rw [size_L]; exact h)]; rfl
theorem L_far (s : ByteArray) (k : Nat) (h : ¬ k < s.size) : (L s)[k]? = none := List.getElem?_eq_none (by rw [size_L]; omega)
theorem head_at (s : ByteArray) : (L s).head? = (L s)[0]? := by rw [List.head?_eq_getElem?]
theorem empty_ne {s : ByteArray} (h : 0 < s.size) : (s.toList == (ByteArray.mk #[]).toList) = false := by
  rw [eq_of_toList, decide_eq_false_iff_not]
  intro e
  rw [e] at h
  exact absurd h (by decide)

theorem below_dN {N : Nat} {w0 w : World} (h : Below N w0 w) (n : Nat) : Below N w0 (w.drewN n) := ⟨h.1, h.2, h.3, h.4, h.5⟩
theorem ne_empty {s : ByteArray} (h : 0 < s.size) : ¬ s.toList = [] := fun e => by
  have : s.size = 0 := by rw [← size_L, ← toList_L, e]; rfl
  omega

set_option maxHeartbeats 1000000 in
theorem kindOf_any (s : ByteArray) (w : World) (hs : s.size ≤ 140737488355328) : Calls Tryz.prog 114 #[.string s] w fun e w' => e = .returned (.tuple #[.int .i64 (knd (L s)), .string (B (rst (L s)))]) ∧ Below w.heap.size w w' := by
  by_cases h0 : 0 < s.size
  · have he0 := empty_ne h0
    have hn0 := ne_empty h0
    have hie : s.toList.isEmpty = false := by simpa using hn0
    by_cases h35 : s[0] = 35
    · have hb : (((s[0].toNat : Int)) != 35) = false := by rw [h35]; rfl
      have hh : (L s).head? = some 35 := by rw [head_at, L_at s 0 h0, h35]
      by_cases hx : ∃ h1 : 1 < s.size, s[1] = 120 ∨ s[1] = 88
      · obtain ⟨h1, hx⟩ := hx
        have k1 : knd (L s) = 2 := by
          unfold knd
          rw [if_pos hh, L_at s 1 h1, if_pos (by simpa using hx)]
        have k2 : B (rst (L s)) = s.extract 2 s.size := by
          unfold rst
          rw [if_pos hh, L_at s 1 h1, if_pos (by simpa using hx), ← L_end, B_L]
        rw [k1, k2]
        clear k1 k2 hh h35
        rcases hx with hx | hx
        · have hb1 : (((s[1].toNat : Int)) == 120) = true := by rw [hx]; rfl
          clear hx
          have hz : (2 : Int) ≤ s.size := by omega
          go_enter Tryz.func114, Tryz.ntmps114
          go_wp2
          go_quiet (fail)
          go_wp2
          go_ret2
          exact ⟨rfl, below_dN (Below.refl _ _) _⟩
        · have hb1 : (((s[1].toNat : Int)) == 120) = false := by rw [hx]; rfl
          have hb2 : (((s[1].toNat : Int)) == 88) = true := by rw [hx]; rfl
          clear hx
          have hz : (2 : Int) ≤ s.size := by omega
          go_enter Tryz.func114, Tryz.ntmps114
          go_wp2
          go_quiet (fail)
          go_wp2
          go_ret2
          exact ⟨rfl, below_dN (Below.refl _ _) _⟩
      · have hx' : ¬ ((L s)[1]? = some 120 ∨ (L s)[1]? = some 88) := by
          intro e
          by_cases h1 : 1 < s.size
          · rw [L_at s 1 h1] at e
            exact hx ⟨h1, by simpa using e⟩
          · rw [L_far s 1 h1] at e
            simp at e
        have k1 : knd (L s) = 1 := by
          unfold knd
          rw [if_pos hh, if_neg hx']
        have k2 : B (rst (L s)) = s.extract 1 s.size := by
          unfold rst
          rw [if_pos hh, if_neg hx', ← L_end, B_L]
        rw [k1, k2]
        clear k1 k2 hh h35 hx'
        by_cases h1 : 1 < s.size
        · have hb1 : (((s[1].toNat : Int)) == 120) = false := u8_ne (b := 120) fun e => hx ⟨h1, .inl e⟩
          have hb2 : (((s[1].toNat : Int)) == 88) = false := u8_ne (b := 88) fun e => hx ⟨h1, .inr e⟩
          clear hx
          go_enter Tryz.func114, Tryz.ntmps114
          go_wp2
          go_quiet (fail)
          go_wp2
          go_ret2
          exact ⟨rfl, below_dN (Below.refl _ _) _⟩
        · clear hx
          go_enter Tryz.func114, Tryz.ntmps114
          go_wp2
          go_quiet (fail)
          go_wp2
          go_ret2
          exact ⟨rfl, below_dN (Below.refl _ _) _⟩
    · have hb : (((s[0].toNat : Int)) != 35) = true := by
        have := u8_ne (b := 35) h35
        rw [show (((35 : UInt8).toNat : Int)) = 35 from rfl] at this
        rw [bne, this]; rfl
      have hh : ¬ (L s).head? = some 35 := by rw [head_at, L_at s 0 h0]; simpa using h35
      have k1 : knd (L s) = 0 := by
        unfold knd
        rw [if_neg hh]
      have k2 : B (rst (L s)) = s := by
        unfold rst
        rw [if_neg hh, B_L]
      rw [k1, k2]
      clear k1 k2 hh h35
      go_enter Tryz.func114, Tryz.ntmps114
      go_wp2
      go_ret2
      exact ⟨rfl, Below.refl _ _⟩
  · obtain rfl : s = ByteArray.mk #[] := L_inj (by
      have : (L s).length = 0 := by rw [size_L]; omega
      exact List.eq_nil_of_length_eq_zero this)
    go_enter Tryz.func114, Tryz.ntmps114
    go_wp2
    go_ret2
    exact ⟨rfl, Below.refl _ _⟩

end Go.Proofs.YtenmlpfjeohkiaaGreatDoor.Re

namespace Go.Proofs.YtenmlpfjeohkiaaGreatDoor.Re
set_option maxRecDepth 100000
set_option linter.unusedSimpArgs false
set_option linter.unusedVariables false
open Go.RowKit Ba Rm
theorem min_int (x m : Int) (w : World) : ∀ ts t, (Builtin.min_ ts t #[.int .i64 x, .int .i64 m]).run Tryz.prog w = .ok (.int .i64 (min x m)) w := fun ts t => by
  rw [run_min_int2]
  congr 2
  split <;> omega
theorem prod_bound {n base : Int} (h0 : 0 ≤ n) (h1 : n ≤ 1114112) (hb : base = 10 ∨ base = 16) : 0 ≤ n * base ∧ n * base ≤ 17825792 := by
  rcases hb with rfl | rfl <;> omega
theorem val_stop {base n : Int} {c : UInt8} {r : List UInt8} (h : dig c < 0 ∨ base ≤ dig c) : val base n (c :: r) = none := by rw [val, if_pos h]
theorem val_on {base n : Int} {c : UInt8} {r : List UInt8} (h : ¬ (dig c < 0 ∨ base ≤ dig c)) : val base n (c :: r) = val base (min (n * base + dig c) 1114112) r := by rw [val, if_neg h]

/-- One character of a text that is ranged over: a byte below 128 is its own; any other one is no digit. -/
theorem get_at (s : ByteArray) (k : Nat) (h : k < s.size) : s.get! (k + 0) = s[k] := by
  show s.data[k]! = s.data[k]
  exact getElem!_pos s.data k h
theorem dec_small (s : ByteArray) (k : Nat) (h : k < s.size) (hc : s[k].toNat < 128) : Utf8.decode s k = (s[k].toNat, 1) := by
  unfold Utf8.decode
  simp only [get_at s k h, hc, if_true]
theorem dec_big (s : ByteArray) (k : Nat) (h : k < s.size) (hc : ¬ s[k].toNat < 128) : 128 ≤ (Utf8.decode s k).1 ∧ (Utf8.decode s k).1 ≤ 1114111 := by
  unfold Utf8.decode
  simp only [get_at s k h, hc, if_false]
  repeat' split
  all_goals simp only [Utf8.runeError, Utf8.valid, Bool.and_eq_true, Bool.or_eq_true, decide_eq_true_eq, ge_iff_le] at *
  all_goals omega

theorem below_iter (w : World) (s : ByteArray) (p : Nat) : Below w.heap.size w (w.iter s p) := (Below.refl _ _).alloc (Nat.le_refl _) _

set_option maxHeartbeats 1000000 in
theorem numbered_any (s : ByteArray) (base : Int) (hbase : base = 10 ∨ base = 16) (w : World) (hs : s.size ≤ 140737488355328) :
    Calls Tryz.prog 115 #[.string s, .int .i64 base] w fun e w' => e = .returned (.tuple #[.string (B ((numL base (L s)).getD [])), .bool (numL base (L s)).isSome]) ∧ Below w.heap.size w w' := by
  obtain ⟨V, hV⟩ : ∃ V, val base 0 (L s) = V := ⟨_, rfl⟩
  have hN : numL base (L s) = if L s = [] then none else V.map code := by unfold numL; rw [hV]
  have HN := Lib.hid hN; clear hN
  go_enter Tryz.func115, Tryz.ntmps115
  go_wp2
  go_loopw [6] (fun v w' => ∃ (k : Nat) (n : Int), w' = w.iter s k ∧ v = .int .i64 n ∧ k ≤ s.size ∧ 0 ≤ n ∧ n ≤ 1114112 ∧ val base n ((L s).drop k) = V) (fun _ w' => s.size - w'.iterPos w.heap.size)
  case atStart => exact ⟨0, 0, rfl, rfl, Nat.zero_le _, Int.le_refl _, by omega, by rw [List.drop_zero]; exact hV⟩
  case round =>
    clear hV
    obtain ⟨k, n, rfl, rfl, hks, hn0, hn1, hc⟩ := hrel
    by_cases hp : k < s.size
    · have hnx : ∀ ty, (Instr.next (.pointer (some ⟨w.heap.size, 0, none⟩)) true ty).run Tryz.prog (w.iter s k) = _ := fun ty => run_next_any w s k ty hp
      rw [drop_cons s k hp] at hc
      by_cases hsm : s[k].toNat < 128
      · rw [dec_small s k hp hsm] at hnx
        simp only [] at hnx
        have hdl := dig_le s[k]
        have hdq := dig_eq s[k]
        by_cases hd : dig s[k] < 0 ∨ base ≤ dig s[k]
        · rw [val_stop hd] at hc
          subst hc
          rcases hd with hd | hd
          · go_wp2_with (go_at_call 122; refine (digit_any s[k].toNat (by omega) (by omega) _).mono ?_; rw [hdq]; rintro e w' ⟨rfl, rfl⟩)
            go_ret2
            refine ⟨?_, below_iter _ _ _⟩
            rw [HN.out]
            split <;> rfl
          · have hd0 : ¬ dig s[k] < 0 := by omega
            go_wp2_with (go_at_call 122; refine (digit_any s[k].toNat (by omega) (by omega) _).mono ?_; rw [hdq]; rintro e w' ⟨rfl, rfl⟩)
            go_ret2
            refine ⟨?_, below_iter _ _ _⟩
            rw [HN.out]
            split <;> rfl
        · rw [val_on hd] at hc
          have hd0 : ¬ dig s[k] < 0 := by omega
          have hd1 : ¬ base ≤ dig s[k] := by omega
          have hpb := prod_bound hn0 hn1 hbase
          obtain ⟨p1, p2⟩ := hpb
          have hmin := min_int (n * base + dig s[k]) 1114112 (w.iter s (k + 1))
          have HC := Lib.hid hc; clear hc hd
          go_wp2_with (go_at_call 122; refine (digit_any s[k].toNat (by omega) (by omega) _).mono ?_; rw [hdq]; rintro e w' ⟨rfl, rfl⟩)
          go_roundw
          case rel => exact ⟨k + 1, _, rfl, rfl, by omega, by omega, by omega, HC.out⟩
          case measure => simp; omega
      · obtain ⟨hb1, hb2⟩ := dec_big s k hp hsm
        have hdq := digI_far (Utf8.decode s k).1 (by omega)
        have hdg : dig s[k] < 0 := by
          rw [← dig_eq, digI_far _ (by omega)]; decide
        rw [val_stop (.inl hdg)] at hc
        subst hc
        go_wp2_with (go_at_call 122; refine (digit_any (Utf8.decode s k).1 (by omega) (by omega) _).mono ?_; rw [hdq]; rintro e w' ⟨rfl, rfl⟩)
        go_ret2
        refine ⟨?_, below_iter _ _ _⟩
        rw [HN.out]
        split <;> rfl
    · have hnx : ∀ ty, (Instr.next (.pointer (some ⟨w.heap.size, 0, none⟩)) true ty).run Tryz.prog (w.iter s k) = _ := fun ty => run_next_end w s k ty hp
      rw [drop_nil s k hp] at hc
      have hc' : V = some n := hc.symm
      subst hc'
      clear hc
      by_cases h0 : 0 < s.size
      · have hie : s.toList.isEmpty = false := by simpa using ne_empty h0
        have hn2 := ne_empty h0
        have hL : ¬ L s = [] := by rw [← toList_L]; exact hn2
        go_wp2_with (go_at_call 123; refine (code_any n _ (WalkArith.wf_i64 (by omega))).mono ?_; rintro e w' ⟨rfl, rfl⟩)
        go_ret2
        refine ⟨?_, below_iter _ _ _⟩
        rw [HN.out, if_neg hL]
        rfl
      · have hL : L s = [] := List.eq_nil_of_length_eq_zero (by rw [size_L]; omega)
        have hie : s.toList.isEmpty = true := by rw [toList_L, hL]; rfl
        have hn2 : s.toList = [] := by rw [toList_L, hL]
        go_wp2
        go_ret2
        refine ⟨?_, below_iter _ _ _⟩
        rw [HN.out, if_pos hL]
        rfl

end Go.Proofs.YtenmlpfjeohkiaaGreatDoor.Re

namespace Go.Proofs.YtenmlpfjeohkiaaGreatDoor.Re
set_option maxRecDepth 100000
set_option linter.unusedSimpArgs false
set_option linter.unusedVariables false
open Go.RowKit Ba Rm
/-- The table's cells. -/
def cellsOf2 (t : List (List UInt8 × Nat)) : List Value := match t with
  | [] => []
  | p :: r => .string (B p.1) :: .int .i64 p.2 :: cellsOf2 r
theorem cellsOf2_drop (t : List (List UInt8 × Nat)) (k : Nat) : (cellsOf2 t).drop (2 * k) = cellsOf2 (t.drop k) := by
  induction t generalizing k with
  | nil => simp [cellsOf2]
  | cons p r ih =>
    cases k with
    | zero => rfl
    | succ k => rw [show 2 * (k + 1) = 2 * k + 1 + 1 from by omega, cellsOf2, List.drop_succ_cons, List.drop_succ_cons, ih, List.drop_succ_cons]
/-- In this world the package's table is as its text lays it. -/
def Tab (w : World) : Prop := w.rangeAt 0 0 (cellsOf2 tab) ∧ 0 < w.heap.size
theorem Tab.below {w w' : World} (h : Tab w) (hb : Below w.heap.size w w') : Tab w' := by
  refine ⟨fun j v hv => ?_, Nat.lt_of_lt_of_le h.2 hb.size⟩
  rw [hb.cell (p := ⟨0, 0 + j, none⟩) h.2]
  exact h.1 j v hv

theorem tabT_info : (Tryz.prog.info? 108).map (·.size) = some 48 := by kernel_rfl
theorem pairT_info : (Tryz.prog.info? 107).map (·.size) = some 2 := by kernel_rfl

theorem index_tab (w : World) (k : Nat) (p : List UInt8 × Nat) (r : List (List UInt8 × Nat)) (hk : k < 24) (h : tab.drop k = p :: r) : (Instr.index 108 (.agg (cellsOf2 tab).toArray) (.int .i64 k)).run Tryz.prog w = .ok (.agg #[.string (B p.1), .int .i64 p.2]) w := by
  have hx : ((cellsOf2 tab).drop (k * 2)).take 2 = [.string (B p.1), .int .i64 p.2] := by
    rw [Nat.mul_comm k 2, cellsOf2_drop, h]
    rfl
  have h0 : (0 : Int) ≤ k ∧ (k : Int) < (24 : Nat) := by omega
  cases hq : Tryz.prog.info? 107 with
  | none => have := pairT_info; rw [hq] at this; cases this
  | some i =>
    have hs : i.size = 2 := by have := pairT_info; rw [hq] at this; simpa using this
    simp [Instr.index, run_underlying Tryz.underlying108, run_underlying Tryz.underlying107, asIntOf, part, isAgg, sizeOf, typeInfo, hq, hs, h0, go_sem]
    rw [if_pos hk, hx]

theorem look_stop {p : List UInt8 × Nat} {r : List (List UInt8 × Nat)} {s : List UInt8} (h : p.1 = s) : Rm.look (p :: r) s = some (code p.2) := by rw [Rm.look, if_pos h]
theorem look_on {p : List UInt8 × Nat} {r : List (List UInt8 × Nat)} {s : List UInt8} (h : ¬ p.1 = s) : Rm.look (p :: r) s = Rm.look r s := by rw [Rm.look, if_neg h]
theorem tab_at (k : Nat) (h : k < 24) : ∃ p, p ∈ tab ∧ tab.drop k = p :: tab.drop (k + 1) := by
  have hl : k < tab.length := h
  exact ⟨tab[k], List.getElem_mem _, List.drop_eq_getElem_cons hl⟩
theorem tab_small : ∀ p ∈ tab, p.2 ≤ 8364 ∧ code p.2 = enc p.2 := by decide
theorem str_eqL (a : List UInt8) (s : ByteArray) : ((B a).toList == s.toList) = decide (a = L s) := by
  rw [toList_B, toList_L, Bool.eq_iff_iff, beq_iff_eq, decide_eq_true_iff]

set_option maxRecDepth 100000 in
set_option maxHeartbeats 1000000 in
theorem named_any (s : ByteArray) (w : World) (ht : Tab w) :
    Calls Tryz.prog 116 #[.string s] w fun e w' => e = .returned (.tuple #[.string (B ((Rm.look tab (L s)).getD [])), .bool (Rm.look tab (L s)).isSome]) ∧ Below w.heap.size w w' := by
  obtain ⟨V, hV⟩ : ∃ V, Rm.look tab (L s) = V := ⟨_, rfl⟩
  rw [hV]
  have hrg := ht.1
  have hln : (Tryz.prog.info? 108).map (·.size) = some (cellsOf2 tab).length := tabT_info.trans (by decide)
  have hix := fun (w : World) k p r => index_tab w k p r
  generalize cellsOf2 tab = cs at hrg hix hln
  have HR := Lib.hid hrg; clear hrg
  have HL := Lib.hid hln; clear hln
  have HI := Lib.hid hix; clear hix
  go_enter Tryz.func116, Tryz.ntmps116
  go_wp2_with (refine wpList_load_mid rfl 108 (.global 0) rfl 0 0 rfl cs _ HR.out Tryz.underlying108 rfl HL.out ?_)
  clear HR HL
  go_loopw [7] (fun i wr => ∃ k : Nat, i = .int .i64 k ∧ k ≤ 24 ∧ Rm.look (tab.drop k) (L s) = V ∧ Below w.heap.size w wr) (fun i _ => 24 - (intOf i).toNat)
  case atStart => exact ⟨0, rfl, by omega, hV, Below.refl _ _⟩
  case round =>
    clear hV
    obtain ⟨k, rfl, hk, hc, hbel⟩ := hrel
    by_cases hp : k < 24
    · obtain ⟨p, hpm, hpd⟩ := tab_at k hp
      have hix := HI.out wr k p _ hp hpd
      rw [hpd] at hc
      have hsz := hbel.size
      by_cases he : p.1 = L s
      · rw [look_stop he] at hc
        subst hc
        have hb : ((B p.1).toList == s.toList) = true := by rw [str_eqL]; exact decide_eq_true he
        have hp2 := (tab_small p hpm).1
        have hwf : (Lit.int .i64 (p.2 : Int)).wf = true := WalkArith.wf_i64 (by omega)
        clear he hpd hp2
        go_wp2_with (go_at_call 123; refine (code_any p.2 _ hwf).mono ?_; rintro e w' ⟨rfl, rfl⟩)
        go_ret2
        exact ⟨rfl, hbel.alloc hsz _⟩
      · rw [look_on he] at hc
        have hb : ((B p.1).toList == s.toList) = false := by rw [str_eqL]; exact decide_eq_false he
        have HC := Lib.hid hc
        clear he hpd hc
        go_wp2
        go_roundw
        case rel => exact ⟨k + 1, by go_num, by omega, HC.out, hbel.alloc hsz _⟩
        case measure => simp [intOf]; omega
    · have hc' : V = none := by
        rw [← hc, List.drop_eq_nil_of_le (by show 24 ≤ k; omega)]
        rfl
      subst hc'
      clear hc
      go_wp2
      go_ret2
      exact ⟨rfl, hbel⟩

end Go.Proofs.YtenmlpfjeohkiaaGreatDoor.Re

namespace Go.Proofs.YtenmlpfjeohkiaaGreatDoor.Re
set_option maxRecDepth 100000
set_option linter.unusedSimpArgs false
set_option linter.unusedVariables false
open Go.RowKit Ba Rm
theorem meant_rst (l : List UInt8) : meant l = if knd l = 1 then numL 10 (rst l) else if knd l = 2 then numL 16 (rst l) else Rm.look tab (rst l) := by
  unfold meant knd rst
  repeat' split
  all_goals first | rfl | (exfalso; omega) | simp_all
theorem knd_three (l : List UInt8) : knd l = 1 ∨ knd l = 2 ∨ knd l = 0 := by
  unfold knd
  repeat' split
  all_goals simp
theorem rst_len (l : List UInt8) : (rst l).length ≤ l.length := by
  unfold rst
  repeat' split
  all_goals (try rw [List.length_drop]); omega

set_option maxHeartbeats 1000000 in
theorem denoted_any (s : ByteArray) (w : World) (ht : Tab w) (hs : s.size ≤ 140737488355328) :
    Calls Tryz.prog 99 #[.string s] w fun e w' => e = .returned (.tuple #[.string (B ((meant (L s)).getD [])), .bool (meant (L s)).isSome]) ∧ Below w.heap.size w w' := by
  have hm := meant_rst (L s)
  have hr : (B (rst (L s))).size ≤ 140737488355328 := by
    have := rst_len (L s)
    rw [size_L] at this
    rw [size_B]; omega
  have hk := kindOf_any s w hs
  have h3 := knd_three (L s)
  have hL := L_B (rst (L s))
  generalize meant (L s) = M at hm
  generalize B (rst (L s)) = t at hk hr hL
  rw [← hL] at hm
  generalize knd (L s) = K at hm hk h3
  clear hL
  rcases h3 with rfl | rfl | rfl
  · rw [if_pos rfl] at hm
    subst hm
    go_enter Tryz.func99, Tryz.ntmps99
    go_wp2_with fail
    refine hk.mono ?_
    clear hk
    rintro e w1 ⟨rfl, hb1⟩
    go_wp2_with fail
    refine (numbered_any t 10 (.inl rfl) w1 hr).mono ?_
    rintro e w2 ⟨rfl, hb2⟩
    go_wp2
    go_ret2
    exact ⟨rfl, bt hb1 hb2⟩
  · rw [if_neg (by decide), if_pos rfl] at hm
    subst hm
    go_enter Tryz.func99, Tryz.ntmps99
    go_wp2_with fail
    refine hk.mono ?_
    clear hk
    rintro e w1 ⟨rfl, hb1⟩
    go_wp2_with fail
    refine (numbered_any t 16 (.inr rfl) w1 hr).mono ?_
    rintro e w2 ⟨rfl, hb2⟩
    go_wp2
    go_ret2
    exact ⟨rfl, bt hb1 hb2⟩
  · rw [if_neg (by decide), if_neg (by decide)] at hm
    subst hm
    go_enter Tryz.func99, Tryz.ntmps99
    go_wp2_with fail
    refine hk.mono ?_
    clear hk
    rintro e w1 ⟨rfl, hb1⟩
    go_wp2_with fail
    refine (named_any t w1 (ht.below hb1)).mono ?_
    rintro e w2 ⟨rfl, hb2⟩
    go_wp2
    go_ret2
    exact ⟨rfl, bt hb1 hb2⟩

end Go.Proofs.YtenmlpfjeohkiaaGreatDoor.Re

namespace Go.Proofs.YtenmlpfjeohkiaaGreatDoor.Re
set_option maxRecDepth 100000
set_option linter.unusedSimpArgs false
set_option linter.unusedVariables false
open Go.RowKit Ba Rm
theorem strCells_L (s : ByteArray) : Lib.strCells s = (L s).map bc := rfl
/-- append of a string's bytes onto bytes of the call's own. -/
theorem app_str {ops : Array Oper} {rest : List Oper} {o : Oper} {a : Act} {Q : Exit → Act → World → Prop} (w : World) (hgd : o.guard = none) (s x : Operand)
    (ho : o.op = .call { callee := .builtin .append, args := #[s, x], argTypes := #[48, 9] })
    (N : Nat) (v : Value) (l : List UInt8) (t : ByteArray) (hs : a.eval s = v) (hown : OwnB N w v l) (hx : a.eval x = .string t)
    (hl : l.length + t.size ≤ 140737488355328) (hN : N ≤ w.heap.size)
    (h : ∀ v' w', OwnB N w' v' (l ++ L t) → (∀ w0, Below N w0 w → Below N w0 w') → wpList Tryz.prog ops Q rest (a.put o.dst v') w') :
    wpList Tryz.prog ops Q (o :: rest) a w := by
  obtain ⟨i0, hi, hz0, hz1, hz2⟩ := info_parts info_u8
  refine Lib.wpList_append_own_string _ hgd s x 48 9 ho N 5 i0 Tryz.underlying48 Tryz.underlying9 hi hz0 hz1 hz2 v l.length (l.map bc) hs hown t hx (by unfold maxLen; omega) hl hN ?_
  intro v2 w2 hown2 hgrow2 _
  refine h v2 w2 ?_ fun w0 hb => hown.below hgrow2 hb hN
  rw [strCells_L] at hown2
  exact OwnB.appended hown2 (by rw [size_L])

theorem bodyOf1 (w : World) (s x : ByteArray) (ok : Bool) (hs : s.size ≤ 140737488355328) (h1 : B ((bod (L s)).getD []) = x) (h2 : (bod (L s)).isSome = ok) :
    Calls Tryz.prog 98 #[.string s] w fun e w' => e = .returned (.tuple #[.string x, .bool ok]) ∧ w = w' := by
  have k := bodyOf_any s w hs
  rw [h1, h2] at k
  exact k
theorem denoted1 (w : World) (s x : ByteArray) (ok : Bool) (ht : Tab w) (hs : s.size ≤ 140737488355328) (h1 : B ((meant (L s)).getD []) = x) (h2 : (meant (L s)).isSome = ok) :
    Calls Tryz.prog 99 #[.string s] w fun e w' => e = .returned (.tuple #[.string x, .bool ok]) ∧ Below w.heap.size w w' := by
  have k := denoted_any s w ht hs
  rw [h1, h2] at k
  exact k
theorem fst_amp {r : List UInt8} : fst (38 :: r) = (match bod r with | some b => (match meant b with | some t => (t, b.length + 2) | none => ([38], 1)) | none => ([38], 1)) := by
  rw [fst_cons, if_pos rfl, refAt_bod]
  cases bod r with
  | none => rfl
  | some b => cases hm : meant b <;> simp [hm]
theorem bod_len {r b : List UInt8} (h : bod r = some b) : b.length + 1 ≤ r.length := len_cut ((bod_cut r).1 b h)
theorem ext1 (s : ByteArray) (h : 0 < s.size) : s.extract 0 1 = B [s[0]] := B_of (by rw [L_extract, List.drop_zero, show 1 - 0 = 0 + 1 from rfl, take_snoc s 0 h]; rfl)

set_option maxHeartbeats 1000000 in
theorem first_any (s t : ByteArray) (n : Nat) (w : World) (ht : Tab w) (h0 : 0 < s.size) (hs : s.size ≤ 140737488355328) (h1 : B (fst (L s)).1 = t) (h2 : (fst (L s)).2 = n) :
    Calls Tryz.prog 77 #[.string s] w fun e w' => e = .returned (.tuple #[.string t, .int .i64 n]) ∧ Below w.heap.size w w' := by
  have hL : L s = s[0] :: (L s).drop 1 := by
    have := drop_cons s 0 h0
    rw [List.drop_zero] at this
    exact this
  have hz : (1 : Int) ≤ s.size := by omega
  by_cases h8 : s[0] = 38
  · have hb : (((s[0].toNat : Int)) == 38) = true := by rw [h8]; rfl
    rw [hL, h8, fst_amp] at h1 h2
    have hxs : (s.extract 1 s.size).size ≤ 140737488355328 := Nat.le_trans (size_extract s 1 s.size) hs
    have hxL := L_end s 1
    cases hbd : bod ((L s).drop 1) with
    | none =>
      rw [hbd] at h1 h2
      have e1 : t = s.extract 0 1 := by rw [← h1, ext1 s h0, h8]
      have e2 : n = 1 := h2.symm
      subst e1 e2
      have k1 : B ((bod (L (s.extract 1 s.size))).getD []) = B [] := by rw [hxL, hbd]; rfl
      have k2 : (bod (L (s.extract 1 s.size))).isSome = false := by rw [hxL, hbd]; rfl
      have K1 := Lib.hid k1; have K2 := Lib.hid k2
      clear k1 k2 hxL hbd hL h1 h2 h8
      go_enter Tryz.func77, Tryz.ntmps77
      go_wp2_with fail
      refine (bodyOf1 w _ _ _ hxs K1.out K2.out).mono ?_
      rintro e w1 ⟨rfl, rfl⟩
      go_wp2
      go_ret2
      exact ⟨rfl, Below.refl _ _⟩
    | some b =>
      rw [hbd] at h1 h2
      simp only at h1 h2
      have hbl := bod_len hbd
      rw [List.length_drop, size_L] at hbl
      have k1 : B ((bod (L (s.extract 1 s.size))).getD []) = B b := by rw [hxL, hbd]; rfl
      have k2 : (bod (L (s.extract 1 s.size))).isSome = true := by rw [hxL, hbd]; rfl
      have hbs : (B b).size ≤ 140737488355328 := by rw [size_B]; omega
      have hbz : (B b).size = b.length := size_B b
      have K1 := Lib.hid k1; have K2 := Lib.hid k2
      clear k1 k2 hxL hbd hL
      cases hm : meant b with
      | none =>
        rw [hm] at h1 h2
        have e1 : t = s.extract 0 1 := by rw [← h1, ext1 s h0, h8]
        have e2 : n = 1 := h2.symm
        subst e1 e2
        have j1 : B ((meant (L (B b))).getD []) = B [] := by rw [L_B, hm]; rfl
        have j2 : (meant (L (B b))).isSome = false := by rw [L_B, hm]; rfl
        have J1 := Lib.hid j1; have J2 := Lib.hid j2
        generalize B b = u at hbs hbz J1 J2 K1
        clear j1 j2 hm h1 h2 h8
        go_enter Tryz.func77, Tryz.ntmps77
        go_wp2_with fail
        refine (bodyOf1 w _ _ _ hxs K1.out K2.out).mono ?_
        rintro e w1 ⟨rfl, rfl⟩
        go_wp2_with fail
        refine (denoted1 w _ _ _ ht hbs J1.out J2.out).mono ?_
        rintro e w2 ⟨rfl, hb2⟩
        go_wp2
        go_ret2
        exact ⟨rfl, hb2⟩
      | some x =>
        rw [hm] at h1 h2
        simp only at h1 h2
        subst h1 h2
        have j1 : B ((meant (L (B b))).getD []) = B x := by rw [L_B, hm]; rfl
        have j2 : (meant (L (B b))).isSome = true := by rw [L_B, hm]; rfl
        have J1 := Lib.hid j1; have J2 := Lib.hid j2
        clear j1 j2 hm h8
        generalize B b = u at hbs hbz J1 J2 K1
        go_enter Tryz.func77, Tryz.ntmps77
        go_wp2_with fail
        refine (bodyOf1 w _ _ _ hxs K1.out K2.out).mono ?_
        rintro e w1 ⟨rfl, rfl⟩
        go_wp2_with fail
        refine (denoted1 w _ _ _ ht hbs J1.out J2.out).mono ?_
        rintro e w2 ⟨rfl, hb2⟩
        go_wp2
        go_ret2
        refine ⟨?_, hb2⟩
        simp
        omega
  · have hb : (((s[0].toNat : Int)) == 38) = false := u8_ne (b := 38) h8
    rw [hL, fst_byte _ h8] at h1 h2
    have e1 : t = s.extract 0 1 := by rw [← h1, ext1 s h0]
    have e2 : n = 1 := h2.symm
    subst e1 e2
    clear hL h1 h2 h8
    go_enter Tryz.func77, Tryz.ntmps77
    go_wp2
    go_ret2
    exact ⟨rfl, Below.refl _ _⟩

end Go.Proofs.YtenmlpfjeohkiaaGreatDoor.Re

namespace Go.Proofs.YtenmlpfjeohkiaaGreatDoor.Re
set_option maxRecDepth 100000
set_option linter.unusedSimpArgs false
set_option linter.unusedVariables false
open Go.RowKit Ba Rm
theorem dec_bound {acc l : List UInt8} {x : List UInt8} (h : acc ++ dec l = dec x) : acc.length + (dec l).length ≤ x.length := by
  have h1 := congrArg List.length h
  have h2 := len_dec x
  rw [List.length_append] at h1
  omega

set_option maxHeartbeats 1000000 in
theorem decode_any (s : ByteArray) (w : World) (ht : Tab w) (hs : s.size ≤ 140737488351232) :
    Calls Tryz.prog 54 #[.string s] w fun e w' => e = .returned (.string (B (dec (L s)))) ∧ Below w.heap.size w w' := by
  obtain ⟨i0, hi, hz0, hz1, hz2⟩ := info_parts info_u8
  go_enter Tryz.func54, Tryz.ntmps54
  go_wp2_with (at_make; refine wpList_make_own _ rfl (.const (.int .i64 0)) (.tmp 8) 48 rfl w.heap.size 5 i0 (.int .u8 0) 1 Tryz.underlying48 hi hz0 hz1 .i64 .i64 _ s.size rfl rfl rfl (by rw [hz2]; omega) (by unfold maxLen; omega) (Nat.le_refl _) ?_; intro w1 hown hgrow)
  have hb0 : Below w.heap.size w w1 := (Below.refl w.heap.size w).grown hgrow (Nat.le_refl _) (by simp)
  have ho0 : OwnB w.heap.size w1 (.slice (some ⟨w.heap.size, 0, none⟩) 0 s.size) [] := hown
  clear hown hgrow
  go_loopw [3, 4] (fun v i wr => ∃ (k : Nat) (acc : List UInt8), i = .int .i64 k ∧ k ≤ s.size ∧ OwnB w.heap.size wr v acc ∧ acc ++ dec ((L s).drop k) = dec (L s) ∧ Below w.heap.size w wr) (fun _ i _ => s.size - (intOf i).toNat)
  case atStart => exact ⟨0, [], rfl, Nat.zero_le _, ho0, by simp, hb0⟩
  case round =>
    clear ho0 hb0
    obtain ⟨k, acc, rfl, hks, hown, hc, hbel⟩ := hrel
    have hN := hbel.size
    by_cases hp : k < s.size
    · have hne : (L s).drop k ≠ [] := by rw [drop_cons s k hp]; exact List.cons_ne_nil _ _
      have hbd := dec_bound hc
      have hok := fst_ok _ hne
      rw [dec_step hne] at hc hbd
      have hxz : 0 < (s.extract k s.size).size := by rw [← size_L, L_end, List.length_drop, size_L]; omega
      have hxs : (s.extract k s.size).size ≤ 140737488355328 := Nat.le_trans (size_extract s k s.size) (by omega)
      obtain ⟨t, hT⟩ : ∃ t, B (fst (L (s.extract k s.size))).1 = t := ⟨_, rfl⟩
      obtain ⟨n, hn⟩ : ∃ n, (fst (L (s.extract k s.size))).2 = n := ⟨_, rfl⟩
      have hTL : (fst ((L s).drop k)).1 = L t := by rw [← hT, L_end, L_B]
      have hnn : (fst ((L s).drop k)).2 = n := by rw [← hn, L_end]
      rw [hTL, hnn, List.drop_drop] at hc
      rw [hTL, hnn] at hok
      rw [hTL, List.length_append, size_L, size_L] at hbd
      rw [List.length_drop, size_L, size_L] at hok
      obtain ⟨hn1, hn2, hn3⟩ := hok
      have hbt : acc.length + t.size ≤ 140737488355328 := by omega
      have HC := Lib.hid hc; have HT := Lib.hid hT; have HN := Lib.hid hn; have HX := Lib.hid hxz
      have hnc : (n : Int) ≤ 140737488355328 := by omega
      clear hc hT hn hTL hnn hbd hn3 hne hxz
      go_wp2_with fail
      refine (first_any _ t n wr (ht.below hbel) HX.out hxs HT.out HN.out).mono ?_
      rintro e w3 ⟨rfl, hb3⟩
      have hbel3 : Below w.heap.size w w3 := hbel.trans (hb3.mono hN)
      have hown3 : OwnB w.heap.size w3 _ acc := OwnB.keep hown hb3
      have hN3 := hbel3.size
      clear hown
      go_wp2_with (at_builtin; refine app_str w3 rfl (.tmp 21) (.tmp 22) rfl w.heap.size _ acc t rfl hown3 rfl hbt hN3 ?_; intro v4 w4 hown4 hk4)
      go_roundw
      case rel => exact ⟨k + n, acc ++ L t, by go_num, by omega, hown4, by rw [List.append_assoc]; exact HC.out, hk4 _ hbel3⟩
      case measure => simp [intOf]; omega
    · have hcv := hown.string
      rw [drop_nil s k hp, dec_nil, List.append_nil] at hc
      subst hc
      go_wp2
      go_ret
      exact ⟨rfl, hbel⟩

end Go.Proofs.YtenmlpfjeohkiaaGreatDoor.Re
