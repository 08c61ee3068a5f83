/-
  Plain mathematics on bytes as characters: what one step of a division finds at the head of a list of bytes, and what is made of it (decoded, right, counted, sampled, lines). It speaks of no program.
  Plain mathematics: a list of bytes divided from its beginning on, and what is told of that: decoded, right, how many, the first ones, one end of lines; and what holds of these for every list.
  Stage 8, in plain words: which trees are legal. Nothing of the program.
  Attributes in memory: what a slice of them reads as.
  Tokens in memory: what a slice of rows reads as, their attributes, a row loaded, a row in a box.
  Rows and attributes of the call's own: what they hold, what is kept where another one grows, append of a row and of attributes.
  Slices of bytes of the call's own: what they hold, the string of them. For every stage.
  fold.Space.
  boltingref02.Space.
  Walks of stage 2, for later stages: fold.lowerByte, Letter, Lower, Same, Trim, boltingref02.Letter, Lower, Trim.
  Walks of stage 3: refs.Code, boltingref03's Char and Code, the digits, has, end, bodyOf, kindOf.
  Walks of stage 3: the digits, has, end, bodyOf, kindOf.
  Walks of stage 3: the value of digits (boltingref03.value, refs.numbered).
  Walks of stage 3: the names (refs.Named over the package's table, boltingref03.Named).
  Walks of stage 3: what a reference's body stands for (refs.denoted, boltingref03.meant), the start of a text (refs.first), a text decoded (refs.Decode, boltingref03.Decode).
  Walks of stage 3: the start of a text (refs.first), a text decoded (refs.Decode, boltingref03.Decode).
  Walks of stage 3: a text decoded (refs.Decode, boltingref03.Decode).
  Walks of stage 6: the reader in memory; pass, skipSpaces. Walks of stage 6: what ends a name or a value, starts, upTo, quoted, value. Walks of stage 6: quoted, value, attr of the reader. Walks of stage 6: attr of the reader.
  Walks of stage 6: attrs of the reader: a tag's attributes, in a loop with a label, the names seen kept in a map. Walks of stage 6: attrs of the reader: the loop.
  Walks of stage 6: what a '<' begins, whether an end tag stands here. Walks of stage 6: begun, isEndTag. Walks of stage 6: plain, upToEndTag of the reader.
  boltingref02.Has.
  Walks of stage 5: names.among, names.Raw, Soft, the document's own.
  Walks of stage 6: tokens of the call's own in a reader; addText, addClosed. Walks of stage 6: commentOf. Walks of stage 6: addClosed, comment, contents of the reader. Walks of stage 6: contents, tag of the reader.
  Walks of stage 6: tag of the reader. Walks of stage 6: markup of the reader. Walks of stage 6: token.In, token.Cut: the tokens are those of TokMath.
  Walks of stage 3: a text decoded by the reference (boltingref03.Decode).
  Walks of stage 3: a text written out (refs.escaped, Text, Value, boltingref03.Write).
  Tokens written out, in plain words. Walks of stage 6: appendAll, appendStart, appendToken: bytes of the call's own. Walks of stage 6: appendStart. Walks of stage 6: appendToken, token.Write.
  What follows for tokens, in plain words: plain text ahead, tags without an end.
  What follows for tokens, in plain words: comments, doctypes, texts as they stand.
  Tokens have no more than twice what the document has.
  Tokens that are written, and cut again: lists of tokens as a document can have them (Good), what they come back as (fin).
  What each token has, in plain words.
  What a list of tokens, written, is cut as; the tokens of any document are such a list.
  Stage 7, in plain words: bytes of tags that close nothing, as tokens and as trees; nothing of the program.
  The tokens of any document are a good list; written, cut and written again they stay.
  Stage 8, in plain words: trees written, as bytes and as tokens; what is written is cut and built as it was. Nothing of the program.
-/
import Derived.Laws.RangeAny
import Derived.Test.YteafldginkpgoaaGreatCk01
import Derived.Deep.MidRow
import Derived.BigQuiet
import Derived.Deep.QuietTactic
import Derived.Lib.ConvBytes
import Derived.StillTailTactics
import Derived.Deep.CutRange
import Derived.Deep.RegionHeld3
import Derived.Maps.OwnSet
import Derived.StringKeys
import Derived.WalkMore
namespace Go.Proofs.YteafldginkpgoaaGreat.Ch
set_option linter.unusedSimpArgs false
set_option linter.unusedVariables false

def at' (l : List UInt8) (k : Nat) : Nat := (l.getD k 0).toNat

def inn (l : List UInt8) (k lo hi : Nat) : Bool := decide (k < l.length) && (decide (lo ≤ at' l k) && decide (at' l k ≤ hi))

def low (c : Nat) : Nat := if c = 0xe0 then 0xa0 else if c = 0xf0 then 0x90 else 128
def high (c : Nat) : Nat := if c = 0xed then 0x9f else if c = 0xf4 then 0x8f else 191

/-- How many bytes the character at the head has; 0: the byte is wrong. -/
def sz (l : List UInt8) : Nat :=
  if at' l 0 < 128 then 1
  else if (decide (0xc2 ≤ at' l 0) && decide (at' l 0 ≤ 0xdf)) && inn l 1 128 191 then 2
  else if !inn l 1 (low (at' l 0)) (high (at' l 0)) || !inn l 2 128 191 then 0
  else if decide (0xe0 ≤ at' l 0) && decide (at' l 0 ≤ 0xef) then 3
  else if (decide (0xf0 ≤ at' l 0) && decide (at' l 0 ≤ 0xf4)) && inn l 3 128 191 then 4
  else 0

def cont (l : List UInt8) (k : Nat) : Bool := decide (k < l.length) && (at' l k / 64 == 2)

def dec (l : List UInt8) : Nat × Nat :=
  let b0 := at' l 0
  if b0 < 0x80 then (b0, 1)
  else if b0 / 32 == 6 && cont l 1 then
    let c := (b0 % 32) * 64 + at' l 1 % 64
    if c ≥ 0x80 then (c, 2) else (Utf8.runeError, 1)
  else if b0 / 16 == 14 && cont l 1 && cont l 2 then
    let c := (b0 % 16) * 4096 + (at' l 1 % 64) * 64 + at' l 2 % 64
    if c ≥ 0x800 && Utf8.valid c then (c, 3) else (Utf8.runeError, 1)
  else if b0 / 8 == 30 && cont l 1 && cont l 2 && cont l 3 then
    let c := (b0 % 8) * 262144 + (at' l 1 % 64) * 4096 + (at' l 2 % 64) * 64 + at' l 3 % 64
    if c ≥ 0x10000 && Utf8.valid c then (c, 4) else (Utf8.runeError, 1)
  else (Utf8.runeError, 1)

theorem get_eq (s : ByteArray) (i k : Nat) : (s.get! (i + k)).toNat = at' (s.data.toList.drop i) k := by
  have h : s.get! (i + k) = (s.data.toList.drop i).getD k 0 := by
    rw [List.getD_eq_getElem?_getD, List.getElem?_drop]
    simp [ByteArray.get!, Array.getElem!_eq_getD]
    rfl
  rw [h]; rfl

theorem cont_eq (s : ByteArray) (i k : Nat) : (decide (i + k < s.size) && ((s.get! (i + k)).toNat / 64 == 2)) = cont (s.data.toList.drop i) k := by
  rw [get_eq, cont]
  congr 1
  have : s.size = s.data.toList.length := by rw [Array.length_toList]; rfl
  rw [Bool.eq_iff_iff]
  simp only [decide_eq_true_iff, List.length_drop]
  omega

theorem decode_eq (s : ByteArray) (i : Nat) : Utf8.decode s i = dec (s.data.toList.drop i) := by
  have c1 := cont_eq s i 1
  have c2 := cont_eq s i 2
  have c3 := cont_eq s i 3
  have g0 := get_eq s i 0
  have g1 := get_eq s i 1
  have g2 := get_eq s i 2
  have g3 := get_eq s i 3
  unfold Utf8.decode dec
  dsimp only
  simp only [c1, c2, c3]
  simp only [g0, g1, g2, g3]

structure Good (c : List UInt8) (r : Nat) : Prop where
  dec : ∀ m, dec (c ++ m) = (r, c.length)
  sz : ∀ m, sz (c ++ m) = c.length
  enc : (Utf8.encode (r : Int)).data.toList = c
  pos : 0 < c.length
  le4 : c.length ≤ 4
  zero : r = 0 ↔ c = [0]
  rle : r ≤ 0x10FFFF
  shape : (∃ a, c = [a] ∧ a.toNat < 128) ∨ ∀ b ∈ c, 128 ≤ b.toNat

theorem u8_ext {a b : UInt8} (h : a.toNat = b.toNat) : a = b := UInt8.toNat_inj.mp h
theorem ofNat_eq (a : UInt8) (n : Nat) (h : n = a.toNat) : UInt8.ofNat n = a := by
  apply u8_ext; rw [h]; simp

theorem valid_of (c : Nat) (h : c < 0xD800 ∨ (0xE000 ≤ c ∧ c ≤ 0x10FFFF)) : Utf8.valid (c : Int) = true := by
  unfold Utf8.valid
  rw [Bool.or_eq_true, Bool.and_eq_true, Bool.and_eq_true, decide_eq_true_iff, decide_eq_true_iff, decide_eq_true_iff, decide_eq_true_iff]
  omega

theorem valid_nat {c : Nat} (h : Utf8.valid (c : Int) = true) : c < 0xD800 ∨ (0xE000 ≤ c ∧ c ≤ 0x10FFFF) := by
  unfold Utf8.valid at h
  rw [Bool.or_eq_true, Bool.and_eq_true, Bool.and_eq_true, decide_eq_true_iff, decide_eq_true_iff, decide_eq_true_iff, decide_eq_true_iff] at h
  omega

theorem enc1 (r : Nat) (c1 : r < 128) : (Utf8.encode (r : Int)).data.toList = [UInt8.ofNat r] := by
  have v := valid_of r (by omega)
  simp [Utf8.encode, v, c1]
theorem enc2 (r : Nat) (c1 : ¬ r < 128) (c2 : r < 2048) : (Utf8.encode (r : Int)).data.toList = [UInt8.ofNat (192 + r / 64), UInt8.ofNat (128 + r % 64)] := by
  have v := valid_of r (by omega)
  simp [Utf8.encode, v, c1, c2]
theorem enc3 (r : Nat) (c2 : ¬ r < 2048) (c3 : r < 65536) (hv : r < 55296 ∨ 57344 ≤ r) : (Utf8.encode (r : Int)).data.toList = [UInt8.ofNat (224 + r / 4096), UInt8.ofNat (128 + r / 64 % 64), UInt8.ofNat (128 + r % 64)] := by
  have v := valid_of r (by omega)
  have c1 : ¬ r < 128 := by omega
  simp [Utf8.encode, v, c1, c2, c3]
theorem enc4 (r : Nat) (c3 : ¬ r < 65536) (c4 : r ≤ 1114111) : (Utf8.encode (r : Int)).data.toList = [UInt8.ofNat (240 + r / 262144), UInt8.ofNat (128 + r / 4096 % 64), UInt8.ofNat (128 + r / 64 % 64), UInt8.ofNat (128 + r % 64)] := by
  have v := valid_of r (by omega)
  have c1 : ¬ r < 128 := by omega
  have c2 : ¬ r < 2048 := by omega
  simp [Utf8.encode, v, c1, c2, c3]

theorem good1 (a : UInt8) (ha : a.toNat < 128) : Good [a] a.toNat where
  dec m := by simp [dec, at', ha]
  sz m := by simp [sz, at', ha]
  enc := by
    rw [enc1 _ ha]
    simp
  pos := by simp
  le4 := by simp
  zero := by
    constructor
    · intro h; congr 1; exact u8_ext h
    · intro h; simp at h; simp [h]
  rle := by omega
  shape := .inl ⟨a, rfl, ha⟩

theorem good2 (a b : UInt8) (ha : 0xc2 ≤ a.toNat) (ha' : a.toNat ≤ 0xdf) (hb : 128 ≤ b.toNat) (hb' : b.toNat ≤ 191) : Good [a, b] ((a.toNat % 32) * 64 + b.toNat % 64) where
  dec m := by
    have h0 : ¬ a.toNat < 128 := by omega
    have h1 : a.toNat / 32 = 6 := by omega
    have h2 : b.toNat / 64 = 2 := by omega
    have h3 : 128 ≤ a.toNat % 32 * 64 + b.toNat % 64 := by omega
    simp [dec, at', cont, h0, h1, h2, h3]
  sz m := by
    have h0 : ¬ a.toNat < 128 := by omega
    simp [sz, at', inn, h0, ha, ha', hb, hb']
  enc := by
    rw [enc2 _ (by omega) (by omega)]
    rw [ofNat_eq a _ (by omega), ofNat_eq b _ (by omega)]
  pos := by simp
  le4 := by simp
  zero := by
    constructor
    · intro h; omega
    · intro h; simp at h
  rle := by omega
  shape := .inr (by intro x hx; simp at hx; rcases hx with rfl | rfl <;> omega)

theorem good3 (a b c : UInt8) (ha : 0xe0 ≤ a.toNat) (ha' : a.toNat ≤ 0xef) (hb : low a.toNat ≤ b.toNat) (hb' : b.toNat ≤ high a.toNat) (hc : 128 ≤ c.toNat) (hc' : c.toNat ≤ 191) : Good [a, b, c] ((a.toNat % 16) * 4096 + (b.toNat % 64) * 64 + c.toNat % 64) := by
  have hL : 128 ≤ b.toNat ∧ b.toNat ≤ 191 ∧ (a.toNat = 0xe0 → 0xa0 ≤ b.toNat) ∧ (a.toNat = 0xed → b.toNat ≤ 0x9f) := by
    unfold low at hb; unfold high at hb'
    split at hb <;> split at hb' <;> (try split at hb) <;> (try split at hb') <;> omega
  obtain ⟨hb1, hb2, hb3, hb4⟩ := hL
  have h0 : ¬ a.toNat < 128 := by omega
  have hlt : a.toNat % 16 * 4096 + b.toNat % 64 * 64 + c.toNat % 64 < 65536 := by omega
  have hge : 0x800 ≤ a.toNat % 16 * 4096 + b.toNat % 64 * 64 + c.toNat % 64 := by omega
  have hv : a.toNat % 16 * 4096 + b.toNat % 64 * 64 + c.toNat % 64 < 0xD800 ∨ 0xE000 ≤ a.toNat % 16 * 4096 + b.toNat % 64 * 64 + c.toNat % 64 := by omega
  have hval : Utf8.valid ((a.toNat % 16 * 4096 + b.toNat % 64 * 64 + c.toNat % 64 : Nat) : Int) = true := valid_of _ (by omega)
  refine ⟨?_, ?_, ?_, by simp, by simp, ?_, by omega, .inr (by intro x hx; simp at hx; rcases hx with rfl | rfl | rfl <;> omega)⟩
  · intro m
    simp only [List.cons_append, List.nil_append]
    have h1 : (a.toNat / 32 == 6) = false := by simp; omega
    have h2 : a.toNat / 16 = 14 := by omega
    have h3 : b.toNat / 64 = 2 := by omega
    have h4 : c.toNat / 64 = 2 := by omega
    have e0 : at' (a :: b :: c :: m) 0 = a.toNat := rfl
    have e1 : at' (a :: b :: c :: m) 1 = b.toNat := rfl
    have e2 : at' (a :: b :: c :: m) 2 = c.toNat := rfl
    have c1 : cont (a :: b :: c :: m) 1 = true := by simp [cont, e1, h3]
    have c2 : cont (a :: b :: c :: m) 2 = true := by simp [cont, e2, h4]
    unfold dec
    simp only [e0, e1, e2, h0, h1, h2, c1, c2, if_false, Bool.false_and, hval]
    simp [hge]
  · intro m
    simp only [List.cons_append, List.nil_append]
    have e0 : at' (a :: b :: c :: m) 0 = a.toNat := rfl
    have i1 : inn (a :: b :: c :: m) 1 128 191 = true := by simp [inn, at', hb1, hb2]
    have i2 : inn (a :: b :: c :: m) 1 (low a.toNat) (high a.toNat) = true := by simp [inn, at', hb, hb']
    have i3 : inn (a :: b :: c :: m) 2 128 191 = true := by simp [inn, at', hc, hc']
    have n1 : ¬ a.toNat ≤ 0xdf := by omega
    unfold sz
    simp [e0, i1, i2, i3, h0, ha, ha', n1]
  · rw [enc3 _ (by omega) (by omega) hv]
    rw [ofNat_eq a _ (by omega), ofNat_eq b _ (by omega), ofNat_eq c _ (by omega)]
  · constructor
    · intro h; omega
    · intro h; simp at h

theorem good4 (a b c d : UInt8) (ha : 0xf0 ≤ a.toNat) (ha' : a.toNat ≤ 0xf4) (hb : low a.toNat ≤ b.toNat) (hb' : b.toNat ≤ high a.toNat) (hc : 128 ≤ c.toNat) (hc' : c.toNat ≤ 191) (hd : 128 ≤ d.toNat) (hd' : d.toNat ≤ 191) :
    Good [a, b, c, d] ((a.toNat % 8) * 262144 + (b.toNat % 64) * 4096 + (c.toNat % 64) * 64 + d.toNat % 64) := by
  have hL : 128 ≤ b.toNat ∧ b.toNat ≤ 191 ∧ (a.toNat = 0xf0 → 0x90 ≤ b.toNat) ∧ (a.toNat = 0xf4 → b.toNat ≤ 0x8f) := by
    unfold low at hb; unfold high at hb'
    split at hb <;> split at hb' <;> (try split at hb) <;> (try split at hb') <;> omega
  obtain ⟨hb1, hb2, hb3, hb4⟩ := hL
  have h0 : ¬ a.toNat < 128 := by omega
  have hlt : a.toNat % 8 * 262144 + b.toNat % 64 * 4096 + c.toNat % 64 * 64 + d.toNat % 64 ≤ 0x10FFFF := by omega
  have hge : 0x10000 ≤ a.toNat % 8 * 262144 + b.toNat % 64 * 4096 + c.toNat % 64 * 64 + d.toNat % 64 := by omega
  have hval : Utf8.valid ((a.toNat % 8 * 262144 + b.toNat % 64 * 4096 + c.toNat % 64 * 64 + d.toNat % 64 : Nat) : Int) = true := valid_of _ (by omega)
  refine ⟨?_, ?_, ?_, by simp, by simp, ?_, by omega, .inr (by intro x hx; simp at hx; rcases hx with rfl | rfl | rfl | rfl <;> omega)⟩
  · intro m
    simp only [List.cons_append, List.nil_append]
    have h1 : (a.toNat / 32 == 6) = false := by simp; omega
    have h1' : (a.toNat / 16 == 14) = false := by simp; omega
    have h2 : a.toNat / 8 = 30 := by omega
    have h3 : b.toNat / 64 = 2 := by omega
    have h4 : c.toNat / 64 = 2 := by omega
    have h5 : d.toNat / 64 = 2 := by omega
    have e0 : at' (a :: b :: c :: d :: m) 0 = a.toNat := rfl
    have e1 : at' (a :: b :: c :: d :: m) 1 = b.toNat := rfl
    have e2 : at' (a :: b :: c :: d :: m) 2 = c.toNat := rfl
    have e3 : at' (a :: b :: c :: d :: m) 3 = d.toNat := rfl
    have c1 : cont (a :: b :: c :: d :: m) 1 = true := by simp [cont, e1, h3]
    have c2 : cont (a :: b :: c :: d :: m) 2 = true := by simp [cont, e2, h4]
    have c3 : cont (a :: b :: c :: d :: m) 3 = true := by simp [cont, e3, h5]
    unfold dec
    simp only [e0, e1, e2, e3, h0, h1, h1', h2, c1, c2, c3, if_false, Bool.false_and, hval]
    simp [hge]
  · intro m
    simp only [List.cons_append, List.nil_append]
    have e0 : at' (a :: b :: c :: d :: m) 0 = a.toNat := rfl
    have i1 : inn (a :: b :: c :: d :: m) 1 128 191 = true := by simp [inn, at', hb1, hb2]
    have i2 : inn (a :: b :: c :: d :: m) 1 (low a.toNat) (high a.toNat) = true := by simp [inn, at', hb, hb']
    have i3 : inn (a :: b :: c :: d :: m) 2 128 191 = true := by simp [inn, at', hc, hc']
    have i4 : inn (a :: b :: c :: d :: m) 3 128 191 = true := by simp [inn, at', hd, hd']
    have n1 : ¬ a.toNat ≤ 0xdf := by omega
    have n2 : ¬ a.toNat ≤ 0xef := by omega
    unfold sz
    simp [e0, i1, i2, i3, i4, h0, ha, ha', n1, n2]
  · rw [enc4 _ (by omega) (by omega)]
    rw [ofNat_eq a _ (by omega), ofNat_eq b _ (by omega), ofNat_eq c _ (by omega), ofNat_eq d _ (by omega)]
  · constructor
    · intro h; omega
    · intro h; simp at h

theorem F_good : Good [0xEF, 0xBF, 0xBD] 0xFFFD := by
  have h := good3 0xEF 0xBF 0xBD (by decide) (by decide) (by decide) (by decide) (by decide) (by decide)
  exact h

/-- What stands at the head: a character, or a wrong byte. -/
theorem step (l : List UInt8) (h : l ≠ []) : (∃ c r t, l = c ++ t ∧ Good c r) ∨ (∃ a t, l = a :: t ∧ dec l = (0xFFFD, 1) ∧ sz l = 0) := by
  obtain ⟨a, t, rfl⟩ := List.exists_cons_of_ne_nil h
  have ha256 := a.toNat_lt
  by_cases h1 : a.toNat < 128
  · exact .inl ⟨[a], _, t, rfl, good1 a h1⟩
  have e0 : at' (a :: t) 0 = a.toNat := rfl
  match t with
  | [] =>
    refine .inr ⟨a, [], rfl, ?_, ?_⟩
    · simp [dec, at', cont, h1, Utf8.runeError]
    · simp [sz, at', inn, h1]
  | b :: t =>
  have e1 : at' (a :: b :: t) 1 = b.toNat := rfl
  have e0 : at' (a :: b :: t) 0 = a.toNat := rfl
  by_cases h2 : (0xc2 ≤ a.toNat ∧ a.toNat ≤ 0xdf) ∧ (128 ≤ b.toNat ∧ b.toNat ≤ 191)
  · exact .inl ⟨[a, b], _, t, rfl, good2 a b h2.1.1 h2.1.2 h2.2.1 h2.2.2⟩
  have i1 : inn (a :: b :: t) 1 128 191 = (decide (128 ≤ b.toNat) && decide (b.toNat ≤ 191)) := by simp [inn, e1]
  have c1 : cont (a :: b :: t) 1 = (b.toNat / 64 == 2) := by simp [cont, e1]
  have i1' : inn (a :: b :: t) 1 (low a.toNat) (high a.toNat) = (decide (low a.toNat ≤ b.toNat) && decide (b.toNat ≤ high a.toNat)) := by simp [inn, e1]
  have n1 : ¬ ((decide (0xc2 ≤ a.toNat) && decide (a.toNat ≤ 0xdf)) && inn (a :: b :: t) 1 128 191) = true := by
    rw [i1]; simp; omega
  have hlo : 128 ≤ low a.toNat := by unfold low; split <;> (try split) <;> omega
  have hhi : high a.toNat ≤ 191 := by unfold high; split <;> (try split) <;> omega
  -- the part of 'dec' of two bytes
  have d2 : (a.toNat / 32 == 6 && cont (a :: b :: t) 1) = true → ¬ (a.toNat % 32) * 64 + b.toNat % 64 ≥ 128 := by
    rw [c1]; simp; omega
  match t with
  | [] =>
    refine .inr ⟨a, [b], rfl, ?_, ?_⟩
    · have c2 : cont [a, b] 2 = false := by simp [cont]
      have c3 : cont [a, b] 3 = false := by simp [cont]
      unfold dec
      simp only [e0, e1, h1, c2, Utf8.runeError, if_false, Bool.and_false, Bool.false_and]
      by_cases hd : (a.toNat / 32 == 6 && cont [a, b] 1) = true
      · rw [if_pos hd, if_neg (d2 hd)]
      · rw [if_neg hd]; simp
    · have i2 : inn [a, b] 2 128 191 = false := by simp [inn]
      unfold sz
      rw [e0, if_neg h1, if_neg n1, i2]; simp
  | c :: t =>
  have e2 : at' (a :: b :: c :: t) 2 = c.toNat := rfl
  have e1 : at' (a :: b :: c :: t) 1 = b.toNat := rfl
  have e0 : at' (a :: b :: c :: t) 0 = a.toNat := rfl
  have i2 : inn (a :: b :: c :: t) 2 128 191 = (decide (128 ≤ c.toNat) && decide (c.toNat ≤ 191)) := by simp [inn, e2]
  have c2 : cont (a :: b :: c :: t) 2 = (c.toNat / 64 == 2) := by simp [cont, e2]
  by_cases h3 : (0xe0 ≤ a.toNat ∧ a.toNat ≤ 0xef) ∧ (low a.toNat ≤ b.toNat ∧ b.toNat ≤ high a.toNat) ∧ (128 ≤ c.toNat ∧ c.toNat ≤ 191)
  · exact .inl ⟨[a, b, c], _, t, rfl, good3 a b c h3.1.1 h3.1.2 h3.2.1.1 h3.2.1.2 h3.2.2.1 h3.2.2.2⟩
  have d3 : (a.toNat / 16 == 14 && cont (a :: b :: c :: t) 1 && cont (a :: b :: c :: t) 2) = true → ¬ (decide ((a.toNat % 16) * 4096 + (b.toNat % 64) * 64 + c.toNat % 64 ≥ 0x800) && Utf8.valid (((a.toNat % 16) * 4096 + (b.toNat % 64) * 64 + c.toNat % 64 : Nat) : Int)) = true := by
    rw [c1, c2]
    simp only [Bool.and_eq_true, beq_iff_eq, decide_eq_true_eq]
    intro ⟨⟨x1, x2⟩, x3⟩ ⟨y1, y2⟩
    have := valid_nat y2
    unfold low high at h3
    by_cases q1 : a.toNat = 0xe0
    · rw [if_pos q1, if_neg (by omega), if_neg (by omega)] at h3; omega
    · by_cases q2 : a.toNat = 0xed
      · rw [if_neg q1, if_neg (by omega), if_pos q2] at h3; omega
      · rw [if_neg q1, if_neg (by omega), if_neg q2, if_neg (by omega)] at h3; omega
  have n3 : ¬ (!inn (a :: b :: c :: t) 1 (low a.toNat) (high a.toNat) || !inn (a :: b :: c :: t) 2 128 191) = true → ¬ (decide (0xe0 ≤ a.toNat) && decide (a.toNat ≤ 0xef)) = true := by
    rw [i1', i2]
    simp only [Bool.or_eq_true, Bool.and_eq_true, Bool.not_eq_true', Bool.and_eq_false_iff, decide_eq_true_eq, decide_eq_false_iff_not]
    omega
  have s3 : (decide (0xf0 ≤ a.toNat) && decide (a.toNat ≤ 0xf4) && inn (a :: b :: c :: t) 3 128 191) = false → sz (a :: b :: c :: t) = 0 := by
    intro q
    unfold sz
    rw [e0, if_neg h1, if_neg n1, q]
    by_cases x : (!inn (a :: b :: c :: t) 1 (low a.toNat) (high a.toNat) || !inn (a :: b :: c :: t) 2 128 191) = true
    · rw [if_pos x]
    · rw [if_neg x, if_neg (n3 x)]; simp
  have dd : ∀ z, (if (a.toNat / 8 == 30 && cont (a :: b :: c :: t) 1 && cont (a :: b :: c :: t) 2 && cont (a :: b :: c :: t) 3) = true then z else (0xFFFD, 1)) = (0xFFFD, 1) →
      (z = (if (decide ((a.toNat % 8) * 262144 + (b.toNat % 64) * 4096 + (c.toNat % 64) * 64 + at' (a :: b :: c :: t) 3 % 64 ≥ 0x10000) && Utf8.valid (((a.toNat % 8) * 262144 + (b.toNat % 64) * 4096 + (c.toNat % 64) * 64 + at' (a :: b :: c :: t) 3 % 64 : Nat) : Int)) = true then ((a.toNat % 8) * 262144 + (b.toNat % 64) * 4096 + (c.toNat % 64) * 64 + at' (a :: b :: c :: t) 3 % 64, 4) else (0xFFFD, 1))) → dec (a :: b :: c :: t) = (0xFFFD, 1) := by
    intro z hz hz'
    unfold dec
    simp only [e0, e1, e2, h1, Utf8.runeError, if_false]
    by_cases hd : (a.toNat / 32 == 6 && cont (a :: b :: c :: t) 1) = true
    · rw [if_pos hd, if_neg (d2 hd)]
    · rw [if_neg hd]
      by_cases hd3 : (a.toNat / 16 == 14 && cont (a :: b :: c :: t) 1 && cont (a :: b :: c :: t) 2) = true
      · rw [if_pos hd3, if_neg (d3 hd3)]
      · rw [if_neg hd3, ← hz', hz]
  match t with
  | [] =>
    have c3 : cont [a, b, c] 3 = false := by simp [cont]
    refine .inr ⟨a, [b, c], rfl, dd _ ?_ rfl, s3 (by simp [inn])⟩
    rw [c3]; simp
  | d :: t =>
  have e3 : at' (a :: b :: c :: d :: t) 3 = d.toNat := rfl
  have i3 : inn (a :: b :: c :: d :: t) 3 128 191 = (decide (128 ≤ d.toNat) && decide (d.toNat ≤ 191)) := by simp [inn, e3]
  have c3 : cont (a :: b :: c :: d :: t) 3 = (d.toNat / 64 == 2) := by simp [cont, e3]
  by_cases h4 : (0xf0 ≤ a.toNat ∧ a.toNat ≤ 0xf4) ∧ (low a.toNat ≤ b.toNat ∧ b.toNat ≤ high a.toNat) ∧ (128 ≤ c.toNat ∧ c.toNat ≤ 191) ∧ (128 ≤ d.toNat ∧ d.toNat ≤ 191)
  · exact .inl ⟨[a, b, c, d], _, t, rfl, good4 a b c d h4.1.1 h4.1.2 h4.2.1.1 h4.2.1.2 h4.2.2.1.1 h4.2.2.1.2 h4.2.2.2.1 h4.2.2.2.2⟩
  refine .inr ⟨a, b :: c :: d :: t, rfl, dd _ ?_ rfl, ?_⟩
  · by_cases hd4 : (a.toNat / 8 == 30 && cont (a :: b :: c :: d :: t) 1 && cont (a :: b :: c :: d :: t) 2 && cont (a :: b :: c :: d :: t) 3) = true
    · rw [if_pos hd4, if_neg ?_]
      rw [c1, c2, c3] at hd4
      rw [e3]
      simp only [Bool.and_eq_true, beq_iff_eq, decide_eq_true_eq] at hd4 ⊢
      obtain ⟨⟨⟨x1, x2⟩, x3⟩, x4⟩ := hd4
      intro ⟨y1, y2⟩
      have := valid_nat y2
      unfold low high at h4
      by_cases q1 : a.toNat = 0xf0
      · rw [if_neg (by omega), if_pos q1, if_neg (by omega), if_neg (by omega)] at h4; omega
      · by_cases q2 : a.toNat = 0xf4
        · rw [if_neg (by omega), if_neg q1, if_neg (by omega), if_pos q2] at h4; omega
        · rw [if_neg (by omega), if_neg q1, if_neg (by omega), if_neg q2] at h4; omega
    · rw [if_neg hd4]
  · by_cases x : (!inn (a :: b :: c :: d :: t) 1 (low a.toNat) (high a.toNat) || !inn (a :: b :: c :: d :: t) 2 128 191) = true
    · unfold sz
      rw [e0, if_neg h1, if_neg n1, if_pos x]
    · apply s3
      rw [i3]
      rw [i1', i2] at x
      simp only [Bool.or_eq_true, Bool.not_eq_true', Bool.and_eq_false_iff, decide_eq_false_iff_not] at x ⊢
      omega

end Go.Proofs.YteafldginkpgoaaGreat.Ch

namespace Go.Proofs.YteafldginkpgoaaGreat.Ch
set_option linter.unusedSimpArgs false
set_option linter.unusedVariables false

theorem ind {P : List UInt8 → Prop} (h0 : P []) (hg : ∀ c r t, Good c r → P t → P (c ++ t)) (hb : ∀ a t, dec (a :: t) = (0xFFFD, 1) → sz (a :: t) = 0 → P t → P (a :: t)) : ∀ l, P l := by
  have key : ∀ n l, l.length ≤ n → P l := by
    intro n
    induction n with
    | zero => intro l hl; have : l = [] := List.eq_nil_of_length_eq_zero (by omega); subst this; exact h0
    | succ n ih =>
      intro l hl
      by_cases hn : l = []
      · subst hn; exact h0
      · rcases step l hn with ⟨c, r, t, rfl, G⟩ | ⟨a, t, rfl, hd, hs⟩
        · have := G.pos; simp at hl; exact hg c r t G (ih t (by omega))
        · simp at hl; exact hb a t hd hs (ih t (by omega))
  exact fun l => key l.length l (Nat.le_refl _)

def F : List UInt8 := [0xEF, 0xBF, 0xBD]

/-- The division: of each part its rune and its bytes. -/
def pieces : Nat → List UInt8 → List (Nat × List UInt8)
  | 0, _ => []
  | _ + 1, [] => []
  | n + 1, a :: t => ((dec (a :: t)).1, (a :: t).take (dec (a :: t)).2) :: pieces n ((a :: t).drop (dec (a :: t)).2)

def pcs (l : List UInt8) : List (Nat × List UInt8) := pieces l.length l

theorem dec_pos (l : List UInt8) (h : l ≠ []) : 1 ≤ (dec l).2 := by
  rcases step l h with ⟨c, r, t, rfl, G⟩ | ⟨a, t, rfl, hd, hs⟩
  · rw [G.dec]; exact G.pos
  · rw [hd]; exact Nat.le_refl _

theorem pieces_more : ∀ n m l, l.length ≤ n → n ≤ m → pieces m l = pieces n l := by
  intro n
  induction n with
  | zero =>
    intro m l hl _
    have : l = [] := List.eq_nil_of_length_eq_zero (by omega)
    subst this
    cases m <;> rfl
  | succ n ih =>
    intro m l hl hm
    obtain ⟨m, rfl⟩ : ∃ k, m = k + 1 := ⟨m - 1, by omega⟩
    cases l with
    | nil => rfl
    | cons a t =>
      have := dec_pos (a :: t) (by simp)
      simp only [pieces]
      rw [ih m _ (by simp only [List.length_drop]; simp at hl ⊢; omega) (by omega)]

theorem pcs_step (l : List UInt8) (h : l ≠ []) : pcs l = ((dec l).1, l.take (dec l).2) :: pcs (l.drop (dec l).2) := by
  obtain ⟨a, t, rfl⟩ := List.exists_cons_of_ne_nil h
  have := dec_pos (a :: t) (by simp)
  show pieces (t.length + 1) (a :: t) = _
  rw [pieces]
  congr 1
  exact pieces_more _ _ _ (Nat.le_refl _) (by simp only [List.length_drop, List.length_cons]; omega)

theorem pcs_good {c : List UInt8} {r : Nat} (G : Good c r) (t : List UInt8) : pcs (c ++ t) = (r, c) :: pcs t := by
  have hne : c ++ t ≠ [] := by have := G.pos; intro e; simp at e; simp [e.1] at this
  rw [pcs_step _ hne, G.dec]
  simp

theorem pcs_bad {a : UInt8} {t : List UInt8} (hd : dec (a :: t) = (0xFFFD, 1)) : pcs (a :: t) = (0xFFFD, [a]) :: pcs t := by
  rw [pcs_step _ (by simp), hd]
  simp

/-- Right. -/
def okP (p : Nat × List UInt8) : Bool := !(p.1 == 0xFFFD) || p.2 == F
def rL (l : List UInt8) : Bool := (pcs l).all okP
theorem rL_nil : rL [] = true := rfl
theorem rL_step (l : List UInt8) (h : l ≠ []) : rL l = (okP ((dec l).1, l.take (dec l).2) && rL (l.drop (dec l).2)) := by
  unfold rL; rw [pcs_step l h]; rfl
theorem Good.fffd {c : List UInt8} (G : Good c 0xFFFD) : c = F := by rw [← G.enc]; exact F_good.enc
theorem okP_good {c : List UInt8} {r : Nat} (G : Good c r) : okP (r, c) = true := by
  unfold okP
  by_cases h : r = 0xFFFD
  · subst h; rw [G.fffd]; rfl
  · have : (r == 0xFFFD) = false := by simpa using h
    simp only [this]; rfl
theorem rL_good {c : List UInt8} {r : Nat} (G : Good c r) (t : List UInt8) : rL (c ++ t) = rL t := by
  unfold rL
  rw [pcs_good G, List.all_cons, okP_good G, Bool.true_and]
theorem rL_bad {a : UInt8} {t : List UInt8} (hd : dec (a :: t) = (0xFFFD, 1)) : rL (a :: t) = false := by
  unfold rL
  rw [pcs_bad hd, List.all_cons]
  simp [okP, F]

/-! ### What holds -/

theorem dec_le (l : List UInt8) (h : l ≠ []) : (dec l).2 ≤ l.length := by
  rcases step l h with ⟨c, r, t, rfl, G⟩ | ⟨a, t, rfl, hd, hs⟩
  · rw [G.dec]; simp
  · rw [hd]; simp

theorem starts_eq (l : List UInt8) (h : l ≠ []) (hr : (dec l).1 = 0xFFFD) : decide (l.take 3 = F) = (l.take (dec l).2 == F) := by
  rcases step l h with ⟨c, r, t, rfl, G⟩ | ⟨a, t, rfl, hd, hs⟩
  · rw [G.dec] at hr ⊢
    have hr' : r = 0xFFFD := hr
    subst hr'
    have := G.fffd
    subst this
    rw [List.take_left]
    have : (F ++ t).take 3 = F := rfl
    rw [this]; simp
  · rw [hd]
    have h1 : ((a :: t).take 1 == F) = false := by simp [F]
    rw [h1, decide_eq_false_iff_not]
    intro e
    have e2 : a :: t = F ++ (a :: t).drop 3 := by rw [← e, List.take_append_drop]
    rw [e2, show dec (F ++ (a :: t).drop 3) = (0xFFFD, 3) from F_good.dec _] at hd
    simp at hd

theorem sz_bad (l : List UInt8) (h : l ≠ []) (hs : sz l = 0) : dec l = (0xFFFD, 1) ∧ ∃ a t, l = a :: t := by
  rcases step l h with ⟨c, r, t, rfl, G⟩ | ⟨a, t, rfl, hd, _⟩
  · rw [G.sz] at hs; have := G.pos; omega
  · exact ⟨hd, a, t, rfl⟩
theorem sz_good (l : List UInt8) (h : l ≠ []) (hs : sz l ≠ 0) : ∃ c r t, l = c ++ t ∧ Good c r ∧ sz l = c.length := by
  rcases step l h with ⟨c, r, t, rfl, G⟩ | ⟨a, t, rfl, _, hz⟩
  · exact ⟨c, r, t, rfl, G, G.sz t⟩
  · exact absurd hz hs
theorem sz_dec (l : List UInt8) (h : l ≠ []) : (dec l).2 = max 1 (sz l) := by
  by_cases hs : sz l = 0
  · rw [(sz_bad l h hs).1, hs]; rfl
  · obtain ⟨c, r, t, rfl, G, e⟩ := sz_good l h hs
    rw [G.dec, G.sz]; have := G.pos; simp only; omega
theorem sz_le (l : List UInt8) (h : l ≠ []) : max 1 (sz l) ≤ l.length := by rw [← sz_dec l h]; exact dec_le l h
theorem rL_sz (l : List UInt8) (h : l ≠ []) : rL l = (if sz l = 0 then false else rL (l.drop (sz l))) := by
  by_cases hs : sz l = 0
  · rw [if_pos hs]
    obtain ⟨hd, a, t, rfl⟩ := sz_bad l h hs
    exact rL_bad hd
  · rw [if_neg hs]
    obtain ⟨c, r, t, rfl, G, e⟩ := sz_good l h hs
    rw [G.sz, rL_good G, List.drop_left]
/-- Bytes below 128, but 0 and 13. -/
def plain (l : List UInt8) : Prop := ∀ x ∈ l, x.toNat < 128 ∧ x ≠ 0 ∧ x ≠ 13

theorem plain_rL (l : List UInt8) (h : plain l) : rL l = true := by
  induction l with
  | nil => rfl
  | cons a t ih => rw [show a :: t = [a] ++ t from rfl, rL_good (good1 a (h a (by simp)).1), ih (fun x hx => h x (by simp [hx]))]
end Go.Proofs.YteafldginkpgoaaGreat.Ch

namespace Go.Proofs.YteafldginkpgoaaGreat.Wm
set_option linter.unusedVariables false
set_option linter.unusedSimpArgs false
open Ba Fm Rm Nm Bm
open Ch (rL)
open Ro (At Ro)
open Tm (pre)
/-- Does p stand somewhere in a text? -/
def sub (p : List UInt8) : List UInt8 → Bool
  | [] => false
  | a :: r => pre p (a :: r) || sub p r
/-- Does a text end with p? -/
def suf (p l : List UInt8) : Bool := decide (p.length ≤ l.length) && decide (l.drop (l.length - p.length) = p)
def cleanB (l : List UInt8) : Bool := rL l && !sub [0] l && !sub [13] l
def nameB (n : ByteArray) : Bool := rightB n && !isIn n goneL && cleanB (L n)
def attB (a : At) : Bool := attrB a.name && cleanB (L a.name) && cleanB (L a.value)
def noteB (d : List UInt8) : Bool := !sub [45, 45, 62] d && !sub [45, 45, 33, 62] d && !pre [62] d && !pre [45, 62] d
def plainB (d : List UInt8) : Bool := !sub [60, 47] d && !suf [60] d
/-- May a row stand anywhere? -/
def rowB (x : Ro) : Bool :=
  if x.kind = 0 then nameB x.name && x.attrs.all attB
  else if x.kind = 2 then noteB (L x.data) && cleanB (L x.data)
  else cleanB (L x.data)
/-- The name right around, or none. -/
def lastN (s : List ByteArray) : ByteArray := s.getLastD ⟨#[]⟩
/-- May a row stand within elements of these names (the last one right around it)? -/
def withB (x : Ro) (s : List ByteArray) : Bool :=
  if isIn (lastN s) voidL = true then false
  else if isIn (lastN s) rawL = true then x.kind == 1 && plainB (L x.data)
  else if isIn (lastN s) softL = true then x.kind == 1
  else x.kind != 0 || nestedB x.name s
/-- Legal from here on, within these elements. -/
def legB (s : List ByteArray) : List Ro → Bool
  | [] => true
  | x :: r => rowB x && withB x (s.take x.depth.toNat) && legB (if x.kind = 0 then s.take x.depth.toNat ++ [x.name] else s.take x.depth.toNat) r
def legalB (l : List Ro) : Bool := (!Ro.exceeds l 4096 60 && Ro.right l) && decide (l = Ro.normal l) && legB [] l

end Go.Proofs.YteafldginkpgoaaGreat.Wm

namespace Go.Proofs.YteafldginkpgoaaGreat.Ro
set_option maxRecDepth 100000
set_option linter.unusedVariables false
set_option linter.unusedSimpArgs false
open Go.RowKit Ba
def acells (a : At) : List Value := [.string a.name, .string a.value]
theorem len_acells (x : At) : (acells x).length = 2 := rfl
/-- These attributes lie at A, below block N. -/
def Ra (w : World) (N : Nat) (A : Option Addr) (l : List At) : Prop :=
  0 < l.length → ∃ b off, A = some ⟨b, off, none⟩ ∧ b < N ∧ ∀ j (h : j < l.length), w.rangeAt b (off + j * 2) (acells l[j])
/-- Their names are no longer than a string can be. -/
def Sh (l : List At) : Prop := ∀ a ∈ l, a.name.size ≤ maxLen
theorem range_keep {w w' : World} {b o : Nat} {cs : List Value} (h : w.rangeAt b o cs) (hk : ∀ o, w'.cell? ⟨b, o, none⟩ = w.cell? ⟨b, o, none⟩) : w'.rangeAt b o cs := fun j v hv => (hk _).trans (h j v hv)
theorem Ra.keep {w w' : World} {N : Nat} {A : Option Addr} {l : List At} (h : Ra w N A l) (hk : ∀ b o, b < N → w'.cell? ⟨b, o, none⟩ = w.cell? ⟨b, o, none⟩) : Ra w' N A l := fun h0 => by
  obtain ⟨b, off, e, hb, hc⟩ := h h0
  exact ⟨b, off, e, hb, fun j hj => range_keep (hc j hj) fun o => hk b o hb⟩
theorem Ra.more {w : World} {N M : Nat} {A : Option Addr} {l : List At} (h : Ra w N A l) (hN : N ≤ M) : Ra w M A l := fun h0 => by
  obtain ⟨b, off, e, hb, hc⟩ := h h0
  exact ⟨b, off, e, by omega, hc⟩
theorem Ra.below {w w' : World} {N M : Nat} {A : Option Addr} {l : List At} (h : Ra w N A l) (hb : Below M w w') (hN : N ≤ M := by exact Nat.le_refl _) : Ra w' N A l := h.keep fun b o hbN => hb.cell (p := ⟨b, o, none⟩) (show b < M by omega)
theorem Ra.nil (w : World) (N : Nat) (A : Option Addr) : Ra w N A [] := fun h => absurd h (by simp)
theorem info_attr : (Tryz.prog.info? 33).map (fun i => (i.zero, i.size, i.bytes)) = some (some (.agg #[.string .empty, .string .empty]), 2, 32) := by kernel_rfl
theorem size_attr : (Tryz.prog.info? 33).map (·.size) = some 2 := by kernel_rfl
theorem range5 {w : World} {b o : Nat} {v0 v1 v2 v3 v4 : Value} (h : w.rangeAt b o [v0, v1, v2, v3, v4]) :
    w.cell? ⟨b, o, none⟩ = some v0 ∧ w.cell? ⟨b, o + 1, none⟩ = some v1 ∧ w.cell? ⟨b, o + 2, none⟩ = some v2 ∧ w.cell? ⟨b, o + 3, none⟩ = some v3 ∧ w.cell? ⟨b, o + 4, none⟩ = some v4 :=
  ⟨h 0 _ rfl, h 1 _ rfl, h 2 _ rfl, h 3 _ rfl, h 4 _ rfl⟩
theorem range2 {w : World} {b o : Nat} {v0 v1 : Value} (h : w.rangeAt b o [v0, v1]) : w.cell? ⟨b, o, none⟩ = some v0 ∧ w.cell? ⟨b, o + 1, none⟩ = some v1 := ⟨h 0 _ rfl, h 1 _ rfl⟩
theorem Ra.at_ {w : World} {N : Nat} {A : Option Addr} {l : List At} (h : Ra w N A l) (k : Nat) (hk : k < l.length) :
    ∃ b off x, A = some ⟨b, off, none⟩ ∧ b < N ∧ l.drop k = x :: l.drop (k + 1) ∧ w.rangeAt b (off + k * 2) [.string x.name, .string x.value] ∧ x ∈ l := by
  obtain ⟨b, off, e, hb, hc⟩ := h (by omega)
  exact ⟨b, off, l[k], e, hb, List.drop_eq_getElem_cons hk, hc k hk, List.getElem_mem _⟩
theorem below_new (w : World) (o : Obj) : Below w.heap.size w (w.alloc o) := (Below.refl _ _).alloc (Nat.le_refl _) _
theorem getElem_of_drop {α : Type} {l : List α} {k : Nat} {x : α} {r : List α} (h : l.drop k = x :: r) : l[k]? = some x := by
  have := List.getElem?_drop (xs := l) (i := k) (j := 0)
  rw [h] at this
  simpa using this.symm
theorem len_part {α : Type} (l : List α) (i j : Nat) (hj : j ≤ l.length) : ((l.take j).drop i).length = j - i := by
  rw [List.length_drop, List.length_take]
  omega
theorem flat_at {α : Type} (f : α → List Value) (m : Nat) (hm : ∀ x, (f x).length = m) : ∀ (l : List α) (j i : Nat) (h : j < l.length), i < m → (l.flatMap f)[j * m + i]? = (f l[j])[i]?
  | [], j, _, h, _ => absurd h (by simp)
  | x :: r, 0, i, _, hi => by
    rw [List.flatMap_cons, List.getElem?_append_left (by rw [hm]; omega)]
    simp
  | x :: r, j + 1, i, h, hi => by
    rw [List.flatMap_cons, List.getElem?_append_right (by rw [hm, Nat.add_mul]; omega), hm, show (j + 1) * m + i - m = j * m + i from by rw [Nat.add_mul]; omega]
    rw [flat_at f m hm r j i (by simpa using h) hi]
    rfl
theorem flat_len {α : Type} (f : α → List Value) (m : Nat) (hm : ∀ x, (f x).length = m) : ∀ l : List α, (l.flatMap f).length = l.length * m
  | [] => by simp
  | x :: r => by rw [List.flatMap_cons, List.length_append, hm, flat_len f m hm r, List.length_cons, Nat.add_mul]; omega
theorem acells_one (l : List At) : ∀ u ∈ l.flatMap acells, u.oneCell' = true := by
  intro u hu
  obtain ⟨x, _, hu⟩ := List.mem_flatMap.1 hu
  simp only [acells, List.mem_cons, List.not_mem_nil, or_false] at hu
  rcases hu with rfl | rfl <;> rfl
end Go.Proofs.YteafldginkpgoaaGreat.Ro

namespace Go.Proofs.YteafldginkpgoaaGreat.To
set_option maxRecDepth 100000
set_option linter.unusedVariables false
set_option linter.unusedSimpArgs false
open Go.RowKit Ba Tm
open Ro (At acells len_acells Ra Sh range_keep info_attr size_attr range2 range5 below_new getElem_of_drop len_part flat_at flat_len acells_one)
/-- A row as it lies: where its attributes are, and how much room is there. -/
structure Tw where
  tk : Tk
  A : Option Addr
  c : Nat

def cells (x : Tw) : List Value := [.int .i64 x.tk.kind, .string x.tk.name, .string x.tk.data, .slice x.A x.tk.attrs.length x.c, .bool x.tk.self]
theorem len_cells (x : Tw) : (cells x).length = 5 := rfl
def Att (w : World) (N : Nat) (x : Tw) : Prop := x.tk.attrs.length ≤ x.c ∧ (x.A = none → x.c = 0) ∧ x.c ≤ maxLen ∧ Ra w N x.A x.tk.attrs ∧ Sh x.tk.attrs
/-- These rows lie at A, below block N, and their attributes. -/
def Rr (w : World) (N : Nat) (A : Option Addr) (l : List Tw) : Prop :=
  (0 < l.length → ∃ b off, A = some ⟨b, off, none⟩ ∧ b < N ∧ ∀ j (h : j < l.length), w.rangeAt b (off + j * 5) (cells l[j])) ∧ ∀ x ∈ l, Att w N x
def tks (l : List Tw) : List Tk := l.map Tw.tk
theorem len_tks (l : List Tw) : (tks l).length = l.length := List.length_map _
theorem Att.keep {w w' : World} {N : Nat} {x : Tw} (h : Att w N x) (hk : ∀ b o, b < N → w'.cell? ⟨b, o, none⟩ = w.cell? ⟨b, o, none⟩) : Att w' N x := ⟨h.1, h.2.1, h.2.2.1, h.2.2.2.1.keep hk, h.2.2.2.2⟩
theorem Att.more {w : World} {N M : Nat} {x : Tw} (h : Att w N x) (hN : N ≤ M) : Att w M x := ⟨h.1, h.2.1, h.2.2.1, h.2.2.2.1.more hN, h.2.2.2.2⟩
theorem Att.below {w w' : World} {N M : Nat} {x : Tw} (h : Att w N x) (hb : Below M w w') (hN : N ≤ M := by exact Nat.le_refl _) : Att w' N x := h.keep fun b o hbN => hb.cell (p := ⟨b, o, none⟩) (show b < M by omega)
theorem Rr.keep {w w' : World} {N : Nat} {A : Option Addr} {l : List Tw} (h : Rr w N A l) (hk : ∀ b o, b < N → w'.cell? ⟨b, o, none⟩ = w.cell? ⟨b, o, none⟩) : Rr w' N A l :=
  ⟨fun h0 => by
    obtain ⟨b, off, e, hb, hc⟩ := h.1 h0
    exact ⟨b, off, e, hb, fun j hj => range_keep (hc j hj) fun o => hk b o hb⟩, fun x hx => (h.2 x hx).keep hk⟩
theorem Rr.more {w : World} {N M : Nat} {A : Option Addr} {l : List Tw} (h : Rr w N A l) (hN : N ≤ M) : Rr w M A l :=
  ⟨fun h0 => by
    obtain ⟨b, off, e, hb, hc⟩ := h.1 h0
    exact ⟨b, off, e, by omega, hc⟩, fun x hx => (h.2 x hx).more hN⟩
theorem Rr.below {w w' : World} {N M : Nat} {A : Option Addr} {l : List Tw} (h : Rr w N A l) (hb : Below M w w') (hN : N ≤ M := by exact Nat.le_refl _) : Rr w' N A l := h.keep fun b o hbN => hb.cell (p := ⟨b, o, none⟩) (show b < M by omega)
theorem Rr.nil (w : World) (N : Nat) (A : Option Addr) : Rr w N A [] := ⟨fun h => absurd h (by simp), fun _ h => by simp at h⟩
/-- A part of it: what the model makes of l[i:j]. -/
theorem Rr.part {w : World} {N : Nat} {A : Option Addr} {l : List Tw} (h : Rr w N A l) (i j cap : Nat) (hij : i ≤ j) (hj : j ≤ l.length) (hc : l.length ≤ cap) :
    Rr w N (if cap = i then A else A.map (·.add (i * 5))) ((l.take j).drop i) := by
  refine ⟨fun h0 => ?_, fun x hx => h.2 x (List.mem_of_mem_take (List.mem_of_mem_drop hx))⟩
  rw [List.length_drop, List.length_take] at h0
  obtain ⟨b, off, e, hb, hcc⟩ := h.1 (by omega)
  rw [if_neg (by omega), e]
  refine ⟨b, off + i * 5, by simp [WideShapes.add_plain], hb, fun k hk => ?_⟩
  rw [List.length_drop, List.length_take] at hk
  have := hcc (i + k) (by omega)
  rw [show off + i * 5 + k * 5 = off + (i + k) * 5 from by omega]
  simpa using this

/-- The row at k. -/
theorem Rr.at_ {w : World} {N : Nat} {A : Option Addr} {l : List Tw} (h : Rr w N A l) (k : Nat) (hk : k < l.length) :
    ∃ b off x, A = some ⟨b, off, none⟩ ∧ b < N ∧ l.drop k = x :: l.drop (k + 1) ∧ w.rangeAt b (off + k * 5) [.int .i64 x.tk.kind, .string x.tk.name, .string x.tk.data, .slice x.A x.tk.attrs.length x.c, .bool x.tk.self] ∧ Att w N x ∧ x ∈ l := by
  obtain ⟨b, off, e, hb, hc⟩ := h.1 (by omega)
  exact ⟨b, off, l[k], e, hb, List.drop_eq_getElem_cons hk, hc k hk, h.2 _ (List.getElem_mem _), List.getElem_mem _⟩
theorem Att.boxed {w w0 : World} {x : Tw} (h : Att w w0.heap.size x) (hb : Below w0.heap.size w0 w) (o : Obj) : Att (w.alloc o) (w.alloc o).heap.size x :=
  ((h.more hb.size).below (below_new w o)).more (by simp)
/-- l[i:j] where i is ahead of the room's end. -/
theorem Rr.mid {w : World} {N : Nat} {A : Option Addr} {l : List Tw} (h : Rr w N A l) (i j cap : Nat) (hij : i ≤ j) (hj : j ≤ l.length) (hc : l.length ≤ cap) (hne : i < cap) :
    Rr w N (Option.map (fun x => x.add (i * 5)) A) ((l.take j).drop i) := by
  have := h.part i j cap hij hj hc
  rwa [if_neg (by omega)] at this
end Go.Proofs.YteafldginkpgoaaGreat.To

namespace Go.Proofs.YteafldginkpgoaaGreat.To
set_option maxRecDepth 100000
set_option linter.unusedVariables false
set_option linter.unusedSimpArgs false
open Go.RowKit Ba Tm
open Ro (At acells len_acells Ra Sh range_keep info_attr size_attr range2 range5 below_new getElem_of_drop len_part flat_at flat_len acells_one)
/-- The attributes of a row lie where no row of the call's own can lie. -/
def Ap (w : World) (N : Nat) (x : Tw) : Prop := 0 < x.tk.attrs.length → ∃ b off, x.A = some ⟨b, off, none⟩ ∧ (b < N ∨ ∃ cs fr, w.heap[b]? = some (.cells cs 33 fr))
/-- The attributes of a row are the call's own. -/
def Fr (N : Nat) (w : World) (x : Tw) : Prop := w.ownsRow N 33 2 (.slice x.A x.tk.attrs.length x.c) x.tk.attrs.length (x.tk.attrs.flatMap acells) ∧ Sh x.tk.attrs
theorem Fr.att {N : Nat} {w : World} {x : Tw} (h : Fr N w x) : Att w w.heap.size x := by
  obtain ⟨⟨hl, h⟩, hs⟩ := h
  rcases h with ⟨hv, hn⟩ | ⟨g, cap, cur, hv, hg, hh, hn, hm, hsz, ht⟩
  · injection hv with e1 e2 e3
    refine ⟨by omega, fun _ => e3, by rw [e3]; exact Nat.zero_le _, fun h0 => by omega, hs⟩
  · have hh0 : w.ownsRow N 33 2 (.slice x.A x.tk.attrs.length x.c) x.tk.attrs.length (x.tk.attrs.flatMap acells) := ⟨hl, .inr ⟨g, cap, cur, hv, hg, hh, hn, hm, hsz, ht⟩⟩
    injection hv with e1 _ e3
    refine ⟨by omega, (fun e => by rw [e] at e1; cases e1), by rw [e3]; exact hm, fun h0 => ⟨g, 0, e1, (Array.getElem?_eq_some_iff.1 hh).1, fun j hj i v hv => ?_⟩, hs⟩
    have hi : i < 2 := (List.getElem?_eq_some_iff.1 hv).1
    have := World.ownsRow.cells hh0 (g := g) (by rw [e1]; rfl) (j * 2 + i) v (by rw [flat_at acells 2 len_acells _ _ _ hj hi]; exact hv)
    rw [WideShapes.add_plain] at this
    rw [show 0 + j * 2 + i = 0 + (j * 2 + i) from by omega]
    exact this
theorem Fr.ap {N : Nat} {w : World} {x : Tw} (h : Fr N w x) : Ap w N x := fun h0 => by
  obtain ⟨⟨_, h⟩, _⟩ := h
  rcases h with ⟨hv, hn⟩ | ⟨g, cap, cur, hv, hg, hh, _⟩
  · omega
  · injection hv with e1
    exact ⟨g, 0, e1, .inr ⟨_, _, hh⟩⟩
theorem Fr.below {N M : Nat} {w w' : World} {x : Tw} (h : Fr N w x) (hb : Below M w w') (hM : w.heap.size ≤ M := by exact Nat.le_refl _) : Fr N w' x := by
  refine ⟨⟨h.1.1, ?_⟩, h.2⟩
  rcases h.1.2 with hn | ⟨g, cap, cur, hv, hg, hh, rest⟩
  · exact .inl hn
  · refine .inr ⟨g, cap, cur, hv, hg, ?_, rest⟩
    have hlt : g < w.heap.size := (Array.getElem?_eq_some_iff.1 hh).1
    rw [hb.block g (by omega)]
    exact hh
theorem Ap.below {N M : Nat} {w w' : World} {x : Tw} (h : Ap w N x) (hb : Below M w w') (hM : w.heap.size ≤ M := by exact Nat.le_refl _) : Ap w' N x := fun h0 => by
  obtain ⟨b, off, e, h⟩ := h h0
  refine ⟨b, off, e, ?_⟩
  rcases h with h | ⟨cs, fr, h⟩
  · exact .inl h
  · refine .inr ⟨cs, fr, ?_⟩
    have hlt : b < w.heap.size := (Array.getElem?_eq_some_iff.1 h).1
    rw [hb.block b (by omega)]
    exact h
theorem Att.apart {N : Nat} {w : World} {x : Tw} (h : Att w N x) : Ap w N x := fun h0 => by
  obtain ⟨b, off, e, hb, _⟩ := h.2.2.2.1 h0
  exact ⟨b, off, e, .inl hb⟩
theorem cells_one (x : Tw) : ∀ u ∈ cells x, u.oneCell' = true := by
  intro u hu
  simp only [cells, List.mem_cons, List.not_mem_nil, or_false] at hu
  rcases hu with rfl | rfl | rfl | rfl | rfl <;> rfl
end Go.Proofs.YteafldginkpgoaaGreat.To

namespace Go.Proofs.YteafldginkpgoaaGreat.Ba
set_option maxRecDepth 100000
set_option linter.unusedSimpArgs false
set_option linter.unusedVariables false
open Go.RowKit
def bc (b : UInt8) : Value := .int .u8 b.toNat
/-- v is a slice of bytes of the call's own that holds l. -/
def OwnB (N : Nat) (w : World) (v : Value) (l : List UInt8) : Prop := w.ownsRow N 5 1 v l.length (l.map bc)
theorem info_u8 : (Tryz.prog.info? 5).map (fun i => (i.zero, i.size, i.bytes)) = some (some (.int .u8 0), 1, 1) := by kernel_rfl
theorem OwnB.alloc {N : Nat} {w : World} {v : Value} {l : List UInt8} (h : OwnB N w v l) (o : Obj) : OwnB N (w.alloc o) v l := World.ownsRow.alloc h o
theorem OwnB.below {N : Nat} {w0 w w' : World} {v : Value} {l : List UInt8} (h : OwnB N w v l) (hg : w.grownBy w' v.ownBlock) (hb : Below N w0 w) (hN : N ≤ w.heap.size) : Below N w0 w' :=
  hb.grown hg hN fun k hk => (h.lt k hk).1
theorem OwnB.keep {N M : Nat} {w w' : World} {v : Value} {l : List UInt8} (h : OwnB N w v l) (hb : Below M w w') (hM : w.heap.size ≤ M := by exact Nat.le_refl _) : OwnB N w' v l := by
  refine ⟨h.1, ?_⟩
  rcases h.2 with hn | ⟨g, cap, cur, hv, hg, hh, rest⟩
  · exact .inl hn
  · refine .inr ⟨g, cap, cur, hv, hg, ?_, rest⟩
    have hlt : g < w.heap.size := (Array.getElem?_eq_some_iff.1 hh).1
    rw [hb.block g (by omega)]
    exact hh
theorem OwnB.made (w : World) : OwnB w.heap.size (w.alloc (.cells #[] 5)) (.slice (some ⟨w.heap.size, 0, none⟩) 0 0) [] :=
  World.ownsRow_made w #[] 0 (Nat.le_refl _) (Nat.zero_le _) rfl
theorem OwnB.string {N : Nat} {w : World} {v : Value} {l : List UInt8} (h : OwnB N w v l) : (convert 50 9 v).run Tryz.prog w = .ok (.string (B l)) w := by
  rcases h.2 with ⟨hv, hl⟩ | ⟨g, cap, cur, hv, hb, hgg, rest⟩
  · have : l = [] := List.eq_nil_of_length_eq_zero hl
    subst this hv
    rw [run_convert_bytes_string w _ _ _ none 0 0 Tryz.underlying50 Tryz.underlying5 Tryz.underlying9]
    rfl
  · subst hv
    exact run_convert_bytes_back w _ _ _ ⟨g, 0, none⟩ cap l Tryz.underlying50 Tryz.underlying5 Tryz.underlying9 fun j hj => World.ownsRow.cells h rfl j _ (by simp [bc, hj])
theorem OwnB.appended {N : Nat} {w : World} {v : Value} {l m : List UInt8} {n : Nat} (h : w.ownsRow N 5 1 v n (l.map bc ++ m.map bc)) (hn : n = l.length + m.length) : OwnB N w v (l ++ m) := by
  unfold OwnB
  rw [List.map_append, List.length_append, ← hn]
  exact h
/-- append of one byte, in a block of its own. -/
theorem app_byte {ops : Array Oper} {rest : List Oper} {o : Oper} {a : Act} {Q : Exit → Act → World → Prop} (w : World) (hgd : o.guard = none) (s x : Operand)
    (ho : o.op = .call { callee := .builtin .append, args := #[s, x], argTypes := #[50, 50] })
    (N : Nat) (v : Value) (l : List UInt8) (y : UInt8) (hs : a.eval s = v) (hown : OwnB N w v l) (hx : a.eval x = .slice (some ⟨w.heap.size, 0, none⟩) 1 1)
    (hl : l.length + 1 ≤ 140737488355328) (hN : N ≤ w.heap.size)
    (h : ∀ v' w', OwnB N w' v' (l ++ [y]) → (∀ w0, Below N w0 w → Below N w0 w') → wpList Tryz.prog ops Q rest (a.put o.dst v') w') :
    wpList Tryz.prog ops Q (o :: rest) a (w.alloc (.cells #[.int .u8 y.toNat] 5)) := by
  obtain ⟨i0, hi, hz0, hz1, hz2⟩ := info_parts info_u8
  have hown' : OwnB N (w.alloc (.cells #[.int .u8 y.toNat] 5)) v l := hown.alloc _
  have hsz : (w.alloc (.cells #[.int .u8 y.toNat] 5)).heap.size = w.heap.size + 1 := by simp
  refine wpList_append_own _ hgd s x 50 ho N 5 i0 (.int .u8 0) 1 1 Tryz.underlying50 hi hz0 hz1 hz2 rfl (by decide) v l.length (l.map bc) hs hown' ⟨w.heap.size, 0, none⟩ 1 1 [.int .u8 y.toNat] hx rfl (cell_one_new _ _ _) (by intro u hu; simp at hu; subst hu; rfl) (by unfold maxLen; omega) (by omega) (by omega) ?_
  intro v' w' ho2 hg2 _
  exact h v' w' (OwnB.appended (m := [y]) ho2 rfl) fun w0 hb => hown'.below hg2 (hb.alloc hN _) (by omega)

theorem strCells_b (s : ByteArray) : Lib.strCells s = (L s).map bc := rfl
/-- append of a string's bytes onto bytes of the call's own. -/
theorem app_strb {ops : Array Oper} {rest : List Oper} {o : Oper} {a : Act} {Q : Exit → Act → World → Prop} (w : World) (hgd : o.guard = none) (s x : Operand)
    (ho : o.op = .call { callee := .builtin .append, args := #[s, x], argTypes := #[50, 9] })
    (N : Nat) (v : Value) (l : List UInt8) (t : ByteArray) (hs : a.eval s = v) (hown : OwnB N w v l) (hx : a.eval x = .string t)
    (hl : l.length + t.size ≤ 140737488355328) (hN : N ≤ w.heap.size)
    (h : ∀ v' w', OwnB N w' v' (l ++ L t) → (∀ w0, Below N w0 w → Below N w0 w') → wpList Tryz.prog ops Q rest (a.put o.dst v') w') :
    wpList Tryz.prog ops Q (o :: rest) a w := by
  obtain ⟨i0, hi, hz0, hz1, hz2⟩ := info_parts info_u8
  refine Lib.wpList_append_own_string _ hgd s x 50 9 ho N 5 i0 Tryz.underlying50 Tryz.underlying9 hi hz0 hz1 hz2 v l.length (l.map bc) hs hown t hx (by unfold maxLen; omega) hl hN ?_
  intro v2 w2 hown2 hgrow2 _
  refine h v2 w2 ?_ fun w0 hb => hown.below hgrow2 hb hN
  rw [strCells_b] at hown2
  exact OwnB.appended hown2 (by rw [size_L])
theorem OwnB.nil (N : Nat) (w : World) : OwnB N w (.slice none 0 0) [] := World.ownsRow_nil w N _ 1

end Go.Proofs.YteafldginkpgoaaGreat.Ba

namespace Go.Proofs.YteafldginkpgoaaGreat.Fo
set_option maxRecDepth 100000
set_option linter.unusedSimpArgs false
set_option linter.unusedVariables false
open Go.RowKit Ba Fm
theorem space_any (c : UInt8) (w : World) :
    Calls Tryz.prog 97 #[.int .u8 c.toNat] w fun e w' => e = .returned (.bool (sp c)) ∧ w = w' := by
  have e9 : ((c.toNat : Int) == 9) = (c == 9) := u8_eq (b := 9)
  have e10 : ((c.toNat : Int) == 10) = (c == 10) := u8_eq (b := 10)
  have e12 : ((c.toNat : Int) == 12) = (c == 12) := u8_eq (b := 12)
  have e13 : ((c.toNat : Int) == 13) = (c == 13) := u8_eq (b := 13)
  have e32 : ((c.toNat : Int) == 32) = (c == 32) := u8_eq (b := 32)
  cases h9 : (c == 9) <;> cases h10 : (c == 10) <;> cases h12 : (c == 12) <;> cases h13 : (c == 13) <;> cases h32 : (c == 32)
  all_goals
    rw [h9] at e9
    rw [h10] at e10
    rw [h12] at e12
    rw [h13] at e13
    rw [h32] at e32
    have H9 := Lib.hid h9; have H10 := Lib.hid h10; have H12 := Lib.hid h12; have H13 := Lib.hid h13; have H32 := Lib.hid h32
    clear h9 h10 h12 h13 h32
    go_enter Tryz.func97, Tryz.ntmps97
    go_wp2
    go_ret
    exact ⟨ret_bool (by unfold sp; rw [H9.out, H10.out, H12.out, H13.out, H32.out]; rfl), rfl⟩

end Go.Proofs.YteafldginkpgoaaGreat.Fo

namespace Go.Proofs.YteafldginkpgoaaGreat.Fo
set_option maxRecDepth 100000
set_option linter.unusedSimpArgs false
set_option linter.unusedVariables false
open Go.RowKit Ba Fm
theorem refSpace_any (c : UInt8) (w : World) :
    Calls Tryz.prog 78 #[.int .u8 c.toNat] w fun e w' => e = .returned (.bool (sp c)) ∧ w = w' := by
  have e9 : ((c.toNat : Int) == 9) = (c == 9) := u8_eq (b := 9)
  have e10 : ((c.toNat : Int) == 10) = (c == 10) := u8_eq (b := 10)
  have e12 : ((c.toNat : Int) == 12) = (c == 12) := u8_eq (b := 12)
  have e13 : ((c.toNat : Int) == 13) = (c == 13) := u8_eq (b := 13)
  have e32 : ((c.toNat : Int) == 32) = (c == 32) := u8_eq (b := 32)
  cases h9 : (c == 9) <;> cases h10 : (c == 10) <;> cases h12 : (c == 12) <;> cases h13 : (c == 13) <;> cases h32 : (c == 32)
  all_goals
    rw [h9] at e9
    rw [h10] at e10
    rw [h12] at e12
    rw [h13] at e13
    rw [h32] at e32
    have H9 := Lib.hid h9; have H10 := Lib.hid h10; have H12 := Lib.hid h12; have H13 := Lib.hid h13; have H32 := Lib.hid h32
    clear h9 h10 h12 h13 h32
    go_enter Tryz.func78, Tryz.ntmps78
    go_wp2
    go_ret
    exact ⟨ret_bool (by unfold sp; rw [H9.out, H10.out, H12.out, H13.out, H32.out]; rfl), rfl⟩

end Go.Proofs.YteafldginkpgoaaGreat.Fo

namespace Go.Proofs.YteafldginkpgoaaGreat.Fo
set_option maxRecDepth 100000
set_option linter.unusedSimpArgs false
set_option linter.unusedVariables false
open Go.RowKit Ba Fm

/-- Block g holds these bytes, as a string's conversion lays them. -/
def Raw (w : World) (g : Nat) (l : List UInt8) : Prop := ∃ cs : Array Value, w.heap[g]? = some (.cells cs 5 (cs.size, cs.size + 1)) ∧ l.length ≤ cs.size ∧ ∀ j (h : j < l.length), cs[j]? = some (bc l[j])

theorem Raw.cell {w : World} {g : Nat} {l : List UInt8} (h : Raw w g l) (j : Nat) (hj : j < l.length) : w.cell? ⟨g, j, none⟩ = some (.int .u8 (l[j].toNat : Int)) := by
  obtain ⟨cs, hg, _, hc⟩ := h
  rw [cell_of_row w g j cs _ _ hg, hc j hj]
  rfl
theorem Raw.frozen {w : World} {g : Nat} {l : List UInt8} (h : Raw w g l) (j : Nat) (hj : j < l.length) : w.frozen? ⟨g, j, none⟩ = false := by
  obtain ⟨cs, hg, hl, _⟩ := h
  simp [World.frozen?, hg]
  omega
theorem Raw.set {w : World} {g : Nat} {l : List UInt8} (h : Raw w g l) (j : Nat) (y : UInt8) : Raw (w.setCell ⟨g, j, none⟩ (.int .u8 (y.toNat : Int))) g (l.set j y) := by
  obtain ⟨cs, hg, hl, hc⟩ := h
  refine ⟨cs.setIfInBounds j (.int .u8 (y.toNat : Int)), ?_, by simpa using hl, fun i hi => ?_⟩
  · simp [World.setCell, Array.getElem?_modify, hg]
  · rw [List.length_set] at hi
    rw [Array.getElem?_setIfInBounds, List.getElem_set]
    by_cases hij : j = i
    · subst hij
      simp [bc]
      omega
    · simp [hij, hc i hi]
theorem Raw.string {w : World} {g c : Nat} {l : List UInt8} (h : Raw w g l) : (convert 50 9 (.slice (some ⟨g, 0, none⟩) l.length c)).run Tryz.prog w = .ok (.string (B l)) w :=
  run_convert_bytes_back w _ _ _ ⟨g, 0, none⟩ c l Tryz.underlying50 Tryz.underlying5 Tryz.underlying9 fun j hj => by
    rw [WideShapes.add_plain, Nat.zero_add]
    exact h.cell j hj
theorem Raw.new (w : World) (s : ByteArray) : Raw (Lib.bytesWorld w 5 s) w.heap.size (L s) := by
  refine ⟨_, Lib.bytesWorld_at_new w _ s, ?_, fun j hj => ?_⟩
  · unfold Lib.bytesCells
    rw [size_L]
    simp
  · rw [size_L] at hj
    simp [Lib.bytesCells, Array.getElem?_append, hj, bc]
end Go.Proofs.YteafldginkpgoaaGreat.Fo

namespace Go.Proofs.YteafldginkpgoaaGreat.Re
set_option maxRecDepth 100000
set_option linter.unusedSimpArgs false
set_option linter.unusedVariables false
open Go.RowKit Ba Rm
theorem below_new (w : World) (o : Obj) : Below w.heap.size w (w.alloc o) := (Below.refl _ _).alloc (Nat.le_refl _) _

theorem valid_of (m : Nat) (h : m < 1114112) (hs : ¬ (55296 ≤ m ∧ m ≤ 57343)) : Utf8.valid (m : Int) = true := by
  unfold Utf8.valid
  simp only [Bool.or_eq_true, Bool.and_eq_true, decide_eq_true_eq]
  omega
end Go.Proofs.YteafldginkpgoaaGreat.Re

namespace Go.Proofs.YteafldginkpgoaaGreat.Re
set_option linter.unusedSimpArgs false
set_option linter.unusedVariables false
open Go.RowKit Ba Rm
theorem u8_ne {a b : UInt8} (h : a ≠ b) : (((a.toNat : Int)) == (b.toNat : Int)) = false := by rw [u8_eq]; simpa using h

theorem below_dN {N : Nat} {w0 w : World} (h : Below N w0 w) (n : Nat) : Below N w0 (w.drewN n) := ⟨h.1, h.2, h.3, h.4, h.5⟩
end Go.Proofs.YteafldginkpgoaaGreat.Re

namespace Go.Proofs.YteafldginkpgoaaGreat.Re
set_option maxRecDepth 100000
set_option linter.unusedSimpArgs false
set_option linter.unusedVariables false
open Go.RowKit Ba Rm
theorem below_iter (w : World) (s : ByteArray) (p : Nat) : Below w.heap.size w (w.iter s p) := (Below.refl _ _).alloc (Nat.le_refl _) _

end Go.Proofs.YteafldginkpgoaaGreat.Re

namespace Go.Proofs.YteafldginkpgoaaGreat.Re
set_option linter.unusedSimpArgs false
set_option linter.unusedVariables false
open Go.RowKit Ba Rm
/-- The table's cells. -/
def cellsOf2 (t : List (List UInt8 × Nat)) : List Value := match t with
  | [] => []
  | p :: r => .string (B p.1) :: .int .i64 p.2 :: cellsOf2 r
/-- In this world the package's table is as its text lays it. -/
def Tab (w : World) : Prop := w.rangeAt 0 0 (cellsOf2 tab) ∧ 0 < w.heap.size
theorem Tab.below {w w' : World} (h : Tab w) (hb : Below w.heap.size w w') : Tab w' := by
  refine ⟨fun j v hv => ?_, Nat.lt_of_lt_of_le h.2 hb.size⟩
  rw [hb.cell (p := ⟨0, 0 + j, none⟩) h.2]
  exact h.1 j v hv

end Go.Proofs.YteafldginkpgoaaGreat.Re

namespace Go.Proofs.YteafldginkpgoaaGreat.Re
set_option linter.unusedSimpArgs false
set_option linter.unusedVariables false
open Go.RowKit Ba Rm
end Go.Proofs.YteafldginkpgoaaGreat.Re

namespace Go.Proofs.YteafldginkpgoaaGreat.Re
set_option maxRecDepth 100000
set_option linter.unusedSimpArgs false
set_option linter.unusedVariables false
open Go.RowKit Ba Rm
theorem strCells_L (s : ByteArray) : Lib.strCells s = (L s).map bc := rfl
/-- append of a string's bytes onto bytes of the call's own. -/
theorem app_str {ops : Array Oper} {rest : List Oper} {o : Oper} {a : Act} {Q : Exit → Act → World → Prop} (w : World) (hgd : o.guard = none) (s x : Operand)
    (ho : o.op = .call { callee := .builtin .append, args := #[s, x], argTypes := #[50, 9] })
    (N : Nat) (v : Value) (l : List UInt8) (t : ByteArray) (hs : a.eval s = v) (hown : OwnB N w v l) (hx : a.eval x = .string t)
    (hl : l.length + t.size ≤ 140737488355328) (hN : N ≤ w.heap.size)
    (h : ∀ v' w', OwnB N w' v' (l ++ L t) → (∀ w0, Below N w0 w → Below N w0 w') → wpList Tryz.prog ops Q rest (a.put o.dst v') w') :
    wpList Tryz.prog ops Q (o :: rest) a w := by
  obtain ⟨i0, hi, hz0, hz1, hz2⟩ := info_parts info_u8
  refine Lib.wpList_append_own_string _ hgd s x 50 9 ho N 5 i0 Tryz.underlying50 Tryz.underlying9 hi hz0 hz1 hz2 v l.length (l.map bc) hs hown t hx (by unfold maxLen; omega) hl hN ?_
  intro v2 w2 hown2 hgrow2 _
  refine h v2 w2 ?_ fun w0 hb => hown.below hgrow2 hb hN
  rw [strCells_L] at hown2
  exact OwnB.appended hown2 (by rw [size_L])

end Go.Proofs.YteafldginkpgoaaGreat.Re

namespace Go.Proofs.YteafldginkpgoaaGreat.Re
set_option linter.unusedSimpArgs false
set_option linter.unusedVariables false
open Go.RowKit Ba Rm
end Go.Proofs.YteafldginkpgoaaGreat.Re

namespace Go.Proofs.YteafldginkpgoaaGreat.To
set_option linter.unusedSimpArgs false
set_option linter.unusedVariables false
open Go.RowKit Ba Fm Fo Tm
/-- A callee that only reads, within a region that draws. -/
theorem quietB {P : Program} {f : FuncId} {args : Array Value} {w : World} {n : Nat} {u v : Bool}
    (h : Calls P f args (w.drewN n) fun e w' => e = .returned (.bool u) ∧ w.drewN n = w') (hu : u = v) : Calls P f args (w.drewN n) fun e w'' => e = .returned (.bool v) ∧ ∃ m, w'' = w.drewN m :=
  h.mono fun _ _ ⟨he, hm⟩ => ⟨by rw [he, hu], n, hm.symm⟩

/-- Does the rest begin with this byte? -/
def hd (c : UInt8) (l : List UInt8) : Bool := by1 (is c) l

end Go.Proofs.YteafldginkpgoaaGreat.To

namespace Go.Proofs.YteafldginkpgoaaGreat.To
set_option linter.unusedSimpArgs false
set_option linter.unusedVariables false
open Go.RowKit Ba Fm Fo Tm
theorem pre_yes (s t : ByteArray) : ((s.extract 0 t.size).toList == t.toList) = pre (L t) (L s) := by
  rw [eq_of_toList]
  unfold pre
  refine decide_eq_decide.2 ?_
  rw [size_L]
  constructor
  · intro e
    have := congrArg L e
    rwa [L_extract, Nat.sub_zero, List.drop_zero] at this
  · intro e
    apply L_inj
    rwa [L_extract, Nat.sub_zero, List.drop_zero]
theorem pre_short (s t : ByteArray) (h : ¬ t.size ≤ s.size) : pre (L t) (L s) = false := by
  unfold pre
  refine decide_eq_false fun e => ?_
  have := congrArg List.length e
  rw [List.length_take, size_L, size_L] at this
  omega
theorem lead_at {p : List UInt8 → Bool} {s : ByteArray} {k : Nat} (h : k < s.size) (hp : p ((L s).drop k) = false) : lead p ((L s).drop k) = s[k] :: lead p ((L s).drop (k + 1)) ∧ trail p ((L s).drop k) = trail p ((L s).drop (k + 1)) := by
  rw [drop_cons s k h] at hp ⊢
  exact ⟨lead_no hp, trail_no hp⟩
theorem lead_end {p : List UInt8 → Bool} {s : ByteArray} {k : Nat} (hp : p ((L s).drop k) = true ∨ ¬ k < s.size) : lead p ((L s).drop k) = [] ∧ trail p ((L s).drop k) = (L s).drop k := by
  by_cases h : k < s.size
  · have hp := hp.resolve_right (by omega)
    rw [drop_cons s k h] at hp ⊢
    exact ⟨lead_yes hp, trail_yes hp⟩
  · rw [drop_nil s k h]
    exact ⟨rfl, rfl⟩
/-- How far a search has come. -/
def Far (p : List UInt8 → Bool) (s : ByteArray) (k m : Nat) : Prop := k ≤ m ∧ m ≤ s.size ∧ lead p ((L s).drop k) = ((L s).drop k).take (m - k) ++ lead p ((L s).drop m) ∧ trail p ((L s).drop k) = trail p ((L s).drop m)
theorem Far.start {p : List UInt8 → Bool} {s : ByteArray} {k : Nat} (h : k ≤ s.size) : Far p s k k := ⟨Nat.le_refl _, h, by simp, rfl⟩
theorem Far.next {p : List UInt8 → Bool} {s : ByteArray} {k m : Nat} (h : Far p s k m) (hm : m < s.size) (hp : p ((L s).drop m) = false) : Far p s k (m + 1) := by
  obtain ⟨h1, h2, h3, h4⟩ := h
  obtain ⟨a1, a2⟩ := lead_at hm hp
  refine ⟨by omega, by omega, ?_, h4.trans a2⟩
  rw [h3, a1]
  have e : ((L s).drop k).take (m + 1 - k) = ((L s).drop k).take (m - k) ++ [s[m]] := by
    rw [show m + 1 - k = (m - k) + 1 from by omega, List.take_succ_eq_append_getElem (by rw [List.length_drop, size_L]; omega)]
    congr 2
    rw [List.getElem_drop]
    simp [show k + (m - k) = m from by omega]
    rfl
  rw [e, List.append_assoc]
  rfl
/-- Where a search ends. -/
theorem Far.done {p : List UInt8 → Bool} {s : ByteArray} {k m : Nat} (h : Far p s k m) (hp : p ((L s).drop m) = true ∨ ¬ m < s.size) : s.extract k m = B (lead p ((L s).drop k)) ∧ (L s).drop m = trail p ((L s).drop k) := by
  obtain ⟨h1, h2, h3, h4⟩ := h
  obtain ⟨a1, a2⟩ := lead_end hp
  refine ⟨B_of ?_, (h4.trans a2).symm⟩
  rw [L_extract, h3, a1, List.append_nil]

end Go.Proofs.YteafldginkpgoaaGreat.To

namespace Go.Proofs.YteafldginkpgoaaGreat.To
set_option linter.unusedSimpArgs false
set_option linter.unusedVariables false
open Go.RowKit Ba Fm Fo Tm
open Ro (At acells len_acells below_new)
open Re (Tab)
end Go.Proofs.YteafldginkpgoaaGreat.To

namespace Go.Proofs.YteafldginkpgoaaGreat.To
set_option linter.unusedSimpArgs false
set_option linter.unusedVariables false
open Go.RowKit Ba Fm Fo Tm
open Ro (At acells len_acells below_new)
open Re (Tab)
open Rm (dec)
/-- Block g is an attribute in a box. -/
def Bx (w : World) (g : Nat) (x y : ByteArray) : Prop := w.heap[g]? = some (.cells #[.string x, .string y] 33)
theorem Bx.c0 {w : World} {g : Nat} {x y : ByteArray} (h : Bx w g x y) : w.cell? ⟨g, 0, none⟩ = some (.string x) := by rw [cell_of_row w g 0 _ _ _ h]; rfl
theorem Bx.c1 {w : World} {g : Nat} {x y : ByteArray} (h : Bx w g x y) : w.cell? ⟨g, 1, none⟩ = some (.string y) := by rw [cell_of_row w g 1 _ _ _ h]; rfl
theorem Bx.f {w : World} {g : Nat} {x y : ByteArray} (h : Bx w g x y) (j : Nat) : w.frozen? ⟨g, j, none⟩ = false := by
  unfold Bx at h
  simp [World.frozen?, h]
theorem Bx.lt {w : World} {g : Nat} {x y : ByteArray} (h : Bx w g x y) : g < w.heap.size := (Array.getElem?_eq_some_iff.1 h).1
theorem Bx.kept {w w' : World} {g b : Nat} {x y : ByteArray} (h : Bx w g x y) (hg : w.grownBy w' (some b)) (hne : g ≠ b) : Bx w' g x y := (hg.block g h.lt (by simpa using hne)).trans h
theorem Bx.below {w w' : World} {g : Nat} {x y : ByteArray} (h : Bx w g x y) (hb : Below w.heap.size w w') : Bx w' g x y := (hb.block g h.lt).trans h
theorem Bx.new (w : World) (x y : ByteArray) : Bx (w.alloc (.cells #[.string x, .string y] 33)) w.heap.size x y := by
  exact (MapKept.heap_alloc w _).1
end Go.Proofs.YteafldginkpgoaaGreat.To

namespace Go.Proofs.YteafldginkpgoaaGreat.To
set_option maxRecDepth 100000
set_option linter.unusedSimpArgs false
set_option linter.unusedVariables false
open Go.RowKit Ba Fm Fo Tm
open Ro (At acells len_acells below_new Sh Ra acells_one info_attr)
open Re (Tab)
open Rm (dec)
/-- Attributes of the call's own. -/
def Aw (N : Nat) (w : World) (v : Value) (l : List At) : Prop := w.ownsRow N 33 2 v l.length (l.flatMap acells) ∧ Sh l
theorem Aw.nil (N : Nat) (w : World) : Aw N w (.slice none 0 0) [] := ⟨World.ownsRow_nil w N _ 2, fun _ h => by simp at h⟩
theorem Aw.low {N b : Nat} {w : World} {v : Value} {l : List At} (h : Aw N w v l) (hb : b < N) : v.ownBlock ≠ some b := fun e => by
  have := (World.ownsRow.lt h.1 b e).1
  omega
theorem Aw.kept {N : Nat} {w w' : World} {v : Value} {l : List At} {row : Option Nat} (h : Aw N w v l) (hg : w.grownBy w' row) (hne : v.ownBlock = none ∨ v.ownBlock ≠ row) : Aw N w' v l := ⟨World.ownsRow.kept h.1 hg hne, h.2⟩
theorem Aw.alloc {N : Nat} {w : World} {v : Value} {l : List At} (h : Aw N w v l) (o : Obj) : Aw N (w.alloc o) v l := ⟨World.ownsRow.alloc h.1 o, h.2⟩
theorem Aw.form {N : Nat} {w : World} {v : Value} {l : List At} (h : Aw N w v l) : ∃ A c, v = .slice A l.length c := by
  rcases h.1.2 with ⟨hv, hl⟩ | ⟨g, cap, cur, hv, _⟩
  · exact ⟨none, 0, by rw [hl]; exact hv⟩
  · exact ⟨_, _, hv⟩

end Go.Proofs.YteafldginkpgoaaGreat.To

namespace Go.Proofs.YteafldginkpgoaaGreat.To
set_option maxRecDepth 100000
set_option linter.unusedSimpArgs false
set_option linter.unusedVariables false
open Go.RowKit Ba Fm Fo Tm
open Ro (At acells len_acells below_new Sh Ra acells_one info_attr)
open Re (Tab)
open Rm (dec)
theorem Aw.drew {N : Nat} {w : World} {v : Value} {l : List At} (h : Aw N w v l) (n : Nat) : Aw N (w.drewN n) v l := h

theorem Aw.mono {N N' : Nat} {w : World} {v : Value} {l : List At} (h : Aw N w v l) (hN : N' ≤ N) : Aw N' w v l := ⟨World.ownsRow.mono h.1 hN, h.2⟩

end Go.Proofs.YteafldginkpgoaaGreat.To

namespace Go.Proofs.YteafldginkpgoaaGreat.To
set_option linter.unusedSimpArgs false
set_option linter.unusedVariables false
open Go.RowKit Ba Fm Fo Tm
end Go.Proofs.YteafldginkpgoaaGreat.To

namespace Go.Proofs.YteafldginkpgoaaGreat.To
set_option linter.unusedSimpArgs false
set_option linter.unusedVariables false
open Go.RowKit Ba Fm Fo Tm
end Go.Proofs.YteafldginkpgoaaGreat.To

namespace Go.Proofs.YteafldginkpgoaaGreat.To
set_option linter.unusedSimpArgs false
set_option linter.unusedVariables false
open Go.RowKit Ba Fm Fo Tm
end Go.Proofs.YteafldginkpgoaaGreat.To

namespace Go.Proofs.YteafldginkpgoaaGreat.Fo
set_option maxRecDepth 100000
set_option linter.unusedSimpArgs false
set_option linter.unusedVariables false
open Go.RowKit Ba Fm
theorem has_snoc (l : List ByteArray) (s : ByteArray) (k : Nat) (h : k < l.length) (hn : ¬ s ∈ l.take k) (he : l[k] ≠ s) : ¬ s ∈ l.take (k + 1) := by
  rw [List.take_succ_eq_append_getElem h, List.mem_append]
  rintro (h' | h')
  · exact hn h'
  · exact he (List.mem_singleton.1 h').symm

set_option maxHeartbeats 400000 in
theorem has_any (A : Option Addr) (c N : Nat) (l : List ByteArray) (s : ByteArray) (w : World) (hr : Rd w N A l) (hl : l.length ≤ 8796093022208) :
    Calls Tryz.prog 23 #[.slice A l.length c, .string s] w fun e w' => e = .returned (.bool (isIn s l)) ∧ w = w' := by
  go_enter Tryz.func23, Tryz.ntmps23
  go_wp2
  go_loop [5] (fun i => ∃ k : Nat, i = .int .i64 k ∧ k ≤ l.length ∧ ¬ s ∈ l.take k) (fun i => l.length - (intOf i).toNat)
  case atStart => exact ⟨0, rfl, Nat.zero_le _, by simp⟩
  case round =>
    obtain ⟨k, rfl, hks, hn⟩ := hrel
    have HN := Lib.hid hn; clear hn
    by_cases hp : k < l.length
    · obtain ⟨b, off, rfl, _, hc⟩ := hr (by omega)
      have hcell := hc k hp
      clear hc hr
      have heq := eq_of_toList (a := l[k]) (b := s)
      by_cases he : l[k] = s
      · rw [decide_eq_true he] at heq
        have HE := Lib.hid he; clear he
        go_wp2
        go_ret
        exact ⟨ret_bool (isIn_yes (by have := HE.out; rw [← this]; exact List.getElem_mem _)).symm, rfl⟩
      · rw [decide_eq_false he] at heq
        have HE := Lib.hid he; clear he
        go_wp2
        go_round
        case rel => exact ⟨k + 1, by go_num, by omega, has_snoc l s k hp HN.out HE.out⟩
        case measure => simp [intOf]; omega
    · go_wp2
      go_ret
      refine ⟨ret_bool (isIn_no ?_).symm, rfl⟩
      have := HN.out
      rwa [List.take_of_length_le (by omega)] at this

end Go.Proofs.YteafldginkpgoaaGreat.Fo

namespace Go.Proofs.YteafldginkpgoaaGreat.Na
set_option maxRecDepth 100000
set_option linter.unusedSimpArgs false
set_option linter.unusedVariables false
open Go.RowKit Ba Fm Fo Nm
set_option maxHeartbeats 400000 in
theorem among_any (A : Option Addr) (c N : Nat) (l : List ByteArray) (s : ByteArray) (w : World) (hr : Rd w N A l) (hl : l.length ≤ 8796093022208) :
    Calls Tryz.prog 61 #[.string s, .slice A l.length c] w fun e w' => e = .returned (.bool (isIn s l)) ∧ w = w' := by
  go_enter Tryz.func61, Tryz.ntmps61
  go_wp2
  go_loop [9] (fun i => ∃ k : Nat, i = .int .i64 k ∧ k ≤ l.length ∧ ¬ s ∈ l.take k) (fun i => l.length - (intOf i).toNat)
  case atStart => exact ⟨0, rfl, Nat.zero_le _, by simp⟩
  case round =>
    obtain ⟨k, rfl, hks, hn⟩ := hrel
    have HN := Lib.hid hn; clear hn
    by_cases hp : k < l.length
    · obtain ⟨b, off, rfl, _, hc⟩ := hr (by omega)
      have hcell := hc k hp
      clear hc hr
      have heq := eq_of_toList (a := l[k]) (b := s)
      by_cases he : l[k] = s
      · rw [decide_eq_true he] at heq
        have HE := Lib.hid he; clear he
        go_wp2
        go_ret
        exact ⟨ret_bool (isIn_yes (by have := HE.out; rw [← this]; exact List.getElem_mem _)).symm, rfl⟩
      · rw [decide_eq_false he] at heq
        have HE := Lib.hid he; clear he
        go_wp2
        go_round
        case rel => exact ⟨k + 1, by go_num, by omega, has_snoc l s k hp HN.out HE.out⟩
        case measure => simp [intOf]; omega
    · go_wp2
      go_ret
      refine ⟨ret_bool (isIn_no ?_).symm, rfl⟩
      have := HN.out
      rwa [List.take_of_length_le (by omega)] at this

theorem amongLit (w : World) (l : List ByteArray) (s : ByteArray) (hl : l.length ≤ 1000) :
    Calls Tryz.prog 61 #[.string s, .slice (some ⟨w.heap.size, 0, none⟩) l.length l.length] (w.alloc (.cells (l.map sc).toArray 9)) fun e w' => e = .returned (.bool (isIn s l)) ∧ w.alloc (.cells (l.map sc).toArray 9) = w' :=
  among_any _ _ _ l s _ (sv_lit w l).rd (by omega)
theorem sown_lit (w : World) (l : List ByteArray) (hl : l.length ≤ 1000) : Sown w.heap.size (w.alloc (.cells (l.map sc).toArray 9)) (.slice (some ⟨w.heap.size, 0, none⟩) l.length l.length) l :=
  World.ownsRow_lit w (l.map sc).toArray l.length (Nat.le_refl _) (by unfold maxLen; omega) (by simp)

theorem raw_lit (w : World) (s : ByteArray) :
    Calls Tryz.prog 61 #[.string s, .slice (some ⟨w.heap.size, 0, none⟩) 6 6] (w.alloc (.cells #[.string ⟨#[105, 102, 114, 97, 109, 101]⟩, .string ⟨#[110, 111, 101, 109, 98, 101, 100]⟩, .string ⟨#[110, 111, 102, 114, 97, 109, 101, 115]⟩, .string ⟨#[115, 99, 114, 105, 112, 116]⟩, .string ⟨#[115, 116, 121, 108, 101]⟩, .string ⟨#[120, 109, 112]⟩] 9)) fun e w' => e = .returned (.bool (isIn s rawL)) ∧ w.alloc (.cells #[.string ⟨#[105, 102, 114, 97, 109, 101]⟩, .string ⟨#[110, 111, 101, 109, 98, 101, 100]⟩, .string ⟨#[110, 111, 102, 114, 97, 109, 101, 115]⟩, .string ⟨#[115, 99, 114, 105, 112, 116]⟩, .string ⟨#[115, 116, 121, 108, 101]⟩, .string ⟨#[120, 109, 112]⟩] 9) = w' := amongLit w rawL s (by decide)
set_option maxHeartbeats 1000000 in
theorem raw_any (s : ByteArray) (w : World) : Calls Tryz.prog 31 #[.string s] w fun e w' => e = .returned (.bool (isIn s rawL)) ∧ Below w.heap.size w w' := by
  go_enter Tryz.func31, Tryz.ntmps31
  go_wp2_with fail
  refine (raw_lit w s).mono ?_
  rintro e w1 ⟨rfl, rfl⟩
  go_wp2
  go_ret
  exact ⟨rfl, below_one w _⟩
theorem soft_lit (w : World) (s : ByteArray) :
    Calls Tryz.prog 61 #[.string s, .slice (some ⟨w.heap.size, 0, none⟩) 2 2] (w.alloc (.cells #[.string ⟨#[116, 101, 120, 116, 97, 114, 101, 97]⟩, .string ⟨#[116, 105, 116, 108, 101]⟩] 9)) fun e w' => e = .returned (.bool (isIn s softL)) ∧ w.alloc (.cells #[.string ⟨#[116, 101, 120, 116, 97, 114, 101, 97]⟩, .string ⟨#[116, 105, 116, 108, 101]⟩] 9) = w' := amongLit w softL s (by decide)
set_option maxHeartbeats 1000000 in
theorem soft_any (s : ByteArray) (w : World) : Calls Tryz.prog 47 #[.string s] w fun e w' => e = .returned (.bool (isIn s softL)) ∧ Below w.heap.size w w' := by
  go_enter Tryz.func47, Tryz.ntmps47
  go_wp2_with fail
  refine (soft_lit w s).mono ?_
  rintro e w1 ⟨rfl, rfl⟩
  go_wp2
  go_ret
  exact ⟨rfl, below_one w _⟩
set_option maxHeartbeats 1000000 in
theorem refRaw_any (w : World) : Calls Tryz.prog 59 #[] w fun e w' => ∃ v, e = .returned v ∧ Sown w.heap.size w' v rawL ∧ Below w.heap.size w w' := by
  have hs := sown_lit w rawL (by decide)
  go_enter Tryz.func59, Tryz.ntmps59
  go_wp2
  go_ret
  exact ⟨_, rfl, hs, below_one w _⟩
set_option maxHeartbeats 1000000 in
theorem refSoft_any (w : World) : Calls Tryz.prog 60 #[] w fun e w' => ∃ v, e = .returned v ∧ Sown w.heap.size w' v softL ∧ Below w.heap.size w w' := by
  have hs := sown_lit w softL (by decide)
  go_enter Tryz.func60, Tryz.ntmps60
  go_wp2
  go_ret
  exact ⟨_, rfl, hs, below_one w _⟩
theorem hasS (w : World) (v : Value) (l : List ByteArray) (s : ByteArray) (hv : Sv w w.heap.size v l) (hl : l.length ≤ 1000) :
    Calls Tryz.prog 23 #[v, .string s] w fun e w' => e = .returned (.bool (isIn s l)) ∧ w = w' := by
  obtain ⟨A, c, rfl, _, _, hr⟩ := hv
  exact has_any A c _ l s w hr (by omega)

end Go.Proofs.YteafldginkpgoaaGreat.Na

namespace Go.Proofs.YteafldginkpgoaaGreat.To
set_option maxRecDepth 100000
set_option linter.unusedSimpArgs false
set_option linter.unusedVariables false
open Go.RowKit Ba Fm Fo Tm
open Ro (At acells len_acells below_new Sh Ra acells_one info_attr)
open Re (Tab)
theorem fr_none (N : Nat) (w : World) (t : Tk) (ht : t.attrs = []) : Fr N w ⟨t, none, 0⟩ := by
  refine ⟨?_, fun a ha => ?_⟩
  · show w.ownsRow N 33 2 (.slice none t.attrs.length 0) t.attrs.length (t.attrs.flatMap acells)
    rw [ht]
    exact World.ownsRow_nil w N _ 2
  · have : a ∈ t.attrs := ha
    rw [ht] at this
    cases this

end Go.Proofs.YteafldginkpgoaaGreat.To

namespace Go.Proofs.YteafldginkpgoaaGreat.To
set_option maxRecDepth 100000
set_option linter.unusedSimpArgs false
set_option linter.unusedVariables false
open Go.RowKit Ba Fm Fo Tm
open Ro (At acells len_acells below_new Sh Ra acells_one info_attr)
end Go.Proofs.YteafldginkpgoaaGreat.To

namespace Go.Proofs.YteafldginkpgoaaGreat.To
set_option maxRecDepth 100000
set_option linter.unusedSimpArgs false
set_option linter.unusedVariables false
open Go.RowKit Ba Fm Fo Tm Nm
open Ro (At acells len_acells below_new Sh Ra acells_one info_attr)
open Re (Tab)
open Rm (dec)
/-- What stands behind a byte, if it stands here. -/
def past (q : UInt8) (l : List UInt8) : List UInt8 := if hd q l = true then l.drop 1 else l
end Go.Proofs.YteafldginkpgoaaGreat.To

namespace Go.Proofs.YteafldginkpgoaaGreat.To
set_option maxRecDepth 100000
set_option linter.unusedSimpArgs false
set_option linter.unusedVariables false
open Go.RowKit Ba Fm Fo Tm Nm
open Ro (At acells len_acells below_new Sh Ra acells_one info_attr)
open Re (Tab)
open Rm (dec)
theorem Aw.fr {N : Nat} {w : World} {A : Option Addr} {c : Nat} {l : List At} (h : Aw N w (.slice A l.length c) l) (k : Int) (n d : ByteArray) (sf : Bool) : Fr N w ⟨⟨k, n, d, l, sf⟩, A, c⟩ := h

end Go.Proofs.YteafldginkpgoaaGreat.To

namespace Go.Proofs.YteafldginkpgoaaGreat.To
set_option linter.unusedSimpArgs false
set_option linter.unusedVariables false
open Go.RowKit Ba Fm Fo Tm Nm
open Ro (At acells len_acells below_new Sh Ra acells_one info_attr)
open Re (Tab)
open Rm (dec)
end Go.Proofs.YteafldginkpgoaaGreat.To

namespace Go.Proofs.YteafldginkpgoaaGreat.To
set_option linter.unusedSimpArgs false
set_option linter.unusedVariables false
open Go.RowKit Ba Fm Fo Tm Nm
open Ro (At acells len_acells below_new Sh Ra acells_one info_attr)
open Re (Tab)
open Rm (dec)
end Go.Proofs.YteafldginkpgoaaGreat.To

namespace Go.Proofs.YteafldginkpgoaaGreat.To
set_option linter.unusedSimpArgs false
set_option linter.unusedVariables false
open Go.RowKit Ba Fm Fo Tm Nm
open Ro (At acells len_acells below_new Sh Ra acells_one info_attr)
open Re (Tab)
open Rm (dec)
end Go.Proofs.YteafldginkpgoaaGreat.To

namespace Go.Proofs.YteafldginkpgoaaGreat.Re
set_option linter.unusedSimpArgs false
set_option linter.unusedVariables false
open Go.RowKit Ba Rm
end Go.Proofs.YteafldginkpgoaaGreat.Re

namespace Go.Proofs.YteafldginkpgoaaGreat.Re
set_option maxRecDepth 100000
set_option linter.unusedSimpArgs false
set_option linter.unusedVariables false
open Go.RowKit Ba Rm
set_option maxRecDepth 100000 in
set_option maxHeartbeats 4000000 in
theorem escaped_false (s : ByteArray) (w : World) (hs : s.size ≤ 10000000) :
    Calls Tryz.prog 85 #[.string s, .bool false] w fun e w' => e = .returned (.string (B (esc false (L s)))) ∧ Below w.heap.size w w' := by
  have hle := (len_esc false (L s)).2.1
  rw [size_L] at hle
  obtain ⟨i0, hi, hz0, hz1, hz2⟩ := info_parts info_u8
  go_enter Tryz.func85, Tryz.ntmps85
  go_wp2_with (at_make; refine wpList_make_own _ rfl (.const (.int .i64 0)) (.tmp 9) 50 rfl w.heap.size 5 i0 (.int .u8 0) 1 Tryz.underlying50 hi hz0 hz1 .i64 .i64 _ s.size rfl rfl rfl (by rw [hz2]; omega) (by unfold maxLen; omega) (Nat.le_refl _) ?_; intro w1 hown hgrow)
  have hb0 : Below w.heap.size w w1 := (Below.refl w.heap.size w).grown hgrow (Nat.le_refl _) (by simp)
  have ho0 : OwnB w.heap.size w1 (.slice (some ⟨w.heap.size, 0, none⟩) 0 s.size) [] := hown
  clear hown hgrow
  go_loopw [5, 6] (fun v i wr => ∃ (k : Nat) (acc : List UInt8), i = .int .i64 k ∧ k ≤ s.size ∧ OwnB w.heap.size wr v acc ∧ acc ++ esc false ((L s).drop k) = esc false (L s) ∧ Below w.heap.size w wr) (fun _ i _ => s.size - (intOf i).toNat)
  case atStart => exact ⟨0, [], rfl, Nat.zero_le _, ho0, by simp, hb0⟩
  case round =>
    clear ho0 hb0
    obtain ⟨k, acc, rfl, hks, hown, hc, hbel⟩ := hrel
    have hN := hbel.size
    have hal : acc.length ≤ 60000000 := by
      have := congrArg List.length hc
      rw [List.length_append] at this
      omega
    have hl1 : acc.length + 1 ≤ 140737488355328 := by omega
    have hl6 : ∀ t : ByteArray, t.size ≤ 6 → acc.length + t.size ≤ 140737488355328 := fun t h => by omega
    clear hle hal
    by_cases hp : k < s.size
    · rw [drop_cons s k hp] at hc
      by_cases h38 : s[k] = 38
      · have hb38 : (((s[k].toNat : Int)) == 38) = true := by rw [h38]; rfl
        have hb60 : (((s[k].toNat : Int)) == 60) = false := by rw [h38]; rfl
        have hb62 : (((s[k].toNat : Int)) == 62) = false := by rw [h38]; rfl
        have hb34 : (((s[k].toNat : Int)) == 34) = false := by rw [h38]; rfl
        have hb194 : (((s[k].toNat : Int)) == 194) = false := by rw [h38]; rfl
        rw [esc_byte _ (fun e => absurd (h38.symm.trans e.1) (by decide)), h38, show e1 false 38 = L ⟨#[38, 97, 109, 112, 59]⟩ from rfl] at hc
        have HC := Lib.hid hc; clear hc h38
        go_wp2_with (at_builtin; refine app_str wr rfl (.tmp 27) (.const (.string ⟨#[38, 97, 109, 112, 59]⟩)) rfl w.heap.size _ acc ⟨#[38, 97, 109, 112, 59]⟩ rfl hown rfl (hl6 _ (by decide)) hN ?_; intro v4 w4 hown4 hk4)
        go_roundw
        case rel => exact ⟨k + 1, _, by go_num, by omega, hown4, by rw [List.append_assoc]; exact HC.out, hk4 _ hbel⟩
        case measure => simp [intOf]; omega
      by_cases h60 : s[k] = 60
      · have hb38 : (((s[k].toNat : Int)) == 38) = false := by rw [h60]; rfl
        have hb60 : (((s[k].toNat : Int)) == 60) = true := by rw [h60]; rfl
        have hb62 : (((s[k].toNat : Int)) == 62) = false := by rw [h60]; rfl
        have hb34 : (((s[k].toNat : Int)) == 34) = false := by rw [h60]; rfl
        have hb194 : (((s[k].toNat : Int)) == 194) = false := by rw [h60]; rfl
        rw [esc_byte _ (fun e => absurd (h60.symm.trans e.1) (by decide)), h60, show e1 false 60 = L ⟨#[38, 108, 116, 59]⟩ from rfl] at hc
        have HC := Lib.hid hc; clear hc h60
        go_wp2_with (at_builtin; refine app_str wr rfl (.tmp 32) (.const (.string ⟨#[38, 108, 116, 59]⟩)) rfl w.heap.size _ acc ⟨#[38, 108, 116, 59]⟩ rfl hown rfl (hl6 _ (by decide)) hN ?_; intro v4 w4 hown4 hk4)
        go_roundw
        case rel => exact ⟨k + 1, _, by go_num, by omega, hown4, by rw [List.append_assoc]; exact HC.out, hk4 _ hbel⟩
        case measure => simp [intOf]; omega
      by_cases h62 : s[k] = 62
      · have hb38 : (((s[k].toNat : Int)) == 38) = false := by rw [h62]; rfl
        have hb60 : (((s[k].toNat : Int)) == 60) = false := by rw [h62]; rfl
        have hb62 : (((s[k].toNat : Int)) == 62) = true := by rw [h62]; rfl
        have hb34 : (((s[k].toNat : Int)) == 34) = false := by rw [h62]; rfl
        have hb194 : (((s[k].toNat : Int)) == 194) = false := by rw [h62]; rfl
        rw [esc_byte _ (fun e => absurd (h62.symm.trans e.1) (by decide)), h62, show e1 false 62 = L ⟨#[38, 103, 116, 59]⟩ from rfl] at hc
        have HC := Lib.hid hc; clear hc h62
        go_wp2_with (at_builtin; refine app_str wr rfl (.tmp 37) (.const (.string ⟨#[38, 103, 116, 59]⟩)) rfl w.heap.size _ acc ⟨#[38, 103, 116, 59]⟩ rfl hown rfl (hl6 _ (by decide)) hN ?_; intro v4 w4 hown4 hk4)
        go_roundw
        case rel => exact ⟨k + 1, _, by go_num, by omega, hown4, by rw [List.append_assoc]; exact HC.out, hk4 _ hbel⟩
        case measure => simp [intOf]; omega
      by_cases h34 : s[k] = 34
      · have hb38 : (((s[k].toNat : Int)) == 38) = false := by rw [h34]; rfl
        have hb60 : (((s[k].toNat : Int)) == 60) = false := by rw [h34]; rfl
        have hb62 : (((s[k].toNat : Int)) == 62) = false := by rw [h34]; rfl
        have hb34 : (((s[k].toNat : Int)) == 34) = true := by rw [h34]; rfl
        have hb194 : (((s[k].toNat : Int)) == 194) = false := by rw [h34]; rfl
        rw [esc_byte _ (fun e => absurd (h34.symm.trans e.1) (by decide)), show e1 false s[k] = [s[k]] from by rw [h34]; rfl] at hc
        have HC := Lib.hid hc; clear hc h34
        go_wp2_with (at_builtin; refine app_byte wr rfl (.tmp 20) (.tmp 22) rfl w.heap.size _ acc s[k] rfl hown rfl hl1 hN ?_; intro v4 w4 hown4 hk4)
        go_roundw
        case rel => exact ⟨k + 1, acc ++ [s[k]], by go_num, by omega, hown4, by rw [List.append_assoc]; exact HC.out, hk4 _ hbel⟩
        case measure => simp [intOf]; omega
      have he1 : e1 false s[k] = [s[k]] := by simp [e1, h38, h60, h62, h34]
      have hb38 : (((s[k].toNat : Int)) == 38) = false := u8_ne (b := 38) h38
      have hb60 : (((s[k].toNat : Int)) == 60) = false := u8_ne (b := 60) h60
      have hb62 : (((s[k].toNat : Int)) == 62) = false := u8_ne (b := 62) h62
      have hb34 : (((s[k].toNat : Int)) == 34) = false := u8_ne (b := 34) h34
      clear h38 h60 h62 h34
      by_cases h194 : s[k] = 194
      · have hb194 : (((s[k].toNat : Int)) == 194) = true := by rw [h194]; rfl
        by_cases hk1 : k + 1 < s.size
        · have hd1 := drop_cons s (k + 1) hk1
          by_cases h160 : s[k + 1] = 160
          · have hb160 : (((s[k + 1].toNat : Int)) == 160) = true := by rw [h160]; rfl
            rw [hd1, h194, h160, esc_nbsp, show ([38, 110, 98, 115, 112, 59] : List UInt8) = L ⟨#[38, 110, 98, 115, 112, 59]⟩ from rfl] at hc
            have HC := Lib.hid hc; clear hc hd1 h194 h160 he1
            go_wp2_with (at_builtin; refine app_str wr rfl (.tmp 64) (.const (.string ⟨#[38, 110, 98, 115, 112, 59]⟩)) rfl w.heap.size _ acc ⟨#[38, 110, 98, 115, 112, 59]⟩ rfl hown rfl (hl6 _ (by decide)) hN ?_; intro v4 w4 hown4 hk4)
            go_roundw
            case rel => exact ⟨k + 2, _, by go_num, by omega, hown4, by rw [List.append_assoc]; exact HC.out, hk4 _ hbel⟩
            case measure => simp [intOf]; omega
          · have hb160 : (((s[k + 1].toNat : Int)) == 160) = false := u8_ne (b := 160) h160
            rw [esc_byte _ (by rw [hd1]; intro e; simp at e; exact h160 e.2), he1] at hc
            have HC := Lib.hid hc; clear hc hd1 h194 h160 he1
            go_wp2_with (at_builtin; refine app_byte wr rfl (.tmp 20) (.tmp 22) rfl w.heap.size _ acc s[k] rfl hown rfl hl1 hN ?_; intro v4 w4 hown4 hk4)
            go_roundw
            case rel => exact ⟨k + 1, acc ++ [s[k]], by go_num, by omega, hown4, by rw [List.append_assoc]; exact HC.out, hk4 _ hbel⟩
            case measure => simp [intOf]; omega
        · rw [esc_byte _ (by rw [drop_nil s (k + 1) hk1]; intro e; simp at e), he1] at hc
          have HC := Lib.hid hc; clear hc h194 he1
          go_wp2_with (at_builtin; refine app_byte wr rfl (.tmp 20) (.tmp 22) rfl w.heap.size _ acc s[k] rfl hown rfl hl1 hN ?_; intro v4 w4 hown4 hk4)
          go_roundw
          case rel => exact ⟨k + 1, acc ++ [s[k]], by go_num, by omega, hown4, by rw [List.append_assoc]; exact HC.out, hk4 _ hbel⟩
          case measure => simp [intOf]; omega
      · have hb194 : (((s[k].toNat : Int)) == 194) = false := u8_ne (b := 194) h194
        rw [esc_byte _ (fun e => h194 e.1), he1] at hc
        have HC := Lib.hid hc; clear hc h194 he1
        go_wp2_with (at_builtin; refine app_byte wr rfl (.tmp 20) (.tmp 22) rfl w.heap.size _ acc s[k] rfl hown rfl hl1 hN ?_; intro v4 w4 hown4 hk4)
        go_roundw
        case rel => exact ⟨k + 1, acc ++ [s[k]], by go_num, by omega, hown4, by rw [List.append_assoc]; exact HC.out, hk4 _ hbel⟩
        case measure => simp [intOf]; omega
    · have hcv := hown.string
      rw [drop_nil s k hp, esc_nil, List.append_nil] at hc
      subst hc
      clear hl6
      go_wp2
      go_ret
      exact ⟨rfl, hbel⟩

set_option maxRecDepth 100000 in
set_option maxHeartbeats 4000000 in
theorem escaped_true (s : ByteArray) (w : World) (hs : s.size ≤ 10000000) :
    Calls Tryz.prog 85 #[.string s, .bool true] w fun e w' => e = .returned (.string (B (esc true (L s)))) ∧ Below w.heap.size w w' := by
  have hle := (len_esc true (L s)).2.1
  rw [size_L] at hle
  obtain ⟨i0, hi, hz0, hz1, hz2⟩ := info_parts info_u8
  go_enter Tryz.func85, Tryz.ntmps85
  go_wp2_with (at_make; refine wpList_make_own _ rfl (.const (.int .i64 0)) (.tmp 9) 50 rfl w.heap.size 5 i0 (.int .u8 0) 1 Tryz.underlying50 hi hz0 hz1 .i64 .i64 _ s.size rfl rfl rfl (by rw [hz2]; omega) (by unfold maxLen; omega) (Nat.le_refl _) ?_; intro w1 hown hgrow)
  have hb0 : Below w.heap.size w w1 := (Below.refl w.heap.size w).grown hgrow (Nat.le_refl _) (by simp)
  have ho0 : OwnB w.heap.size w1 (.slice (some ⟨w.heap.size, 0, none⟩) 0 s.size) [] := hown
  clear hown hgrow
  go_loopw [5, 6] (fun v i wr => ∃ (k : Nat) (acc : List UInt8), i = .int .i64 k ∧ k ≤ s.size ∧ OwnB w.heap.size wr v acc ∧ acc ++ esc true ((L s).drop k) = esc true (L s) ∧ Below w.heap.size w wr) (fun _ i _ => s.size - (intOf i).toNat)
  case atStart => exact ⟨0, [], rfl, Nat.zero_le _, ho0, by simp, hb0⟩
  case round =>
    clear ho0 hb0
    obtain ⟨k, acc, rfl, hks, hown, hc, hbel⟩ := hrel
    have hN := hbel.size
    have hal : acc.length ≤ 60000000 := by
      have := congrArg List.length hc
      rw [List.length_append] at this
      omega
    have hl1 : acc.length + 1 ≤ 140737488355328 := by omega
    have hl6 : ∀ t : ByteArray, t.size ≤ 6 → acc.length + t.size ≤ 140737488355328 := fun t h => by omega
    clear hle hal
    by_cases hp : k < s.size
    · rw [drop_cons s k hp] at hc
      by_cases h38 : s[k] = 38
      · have hb38 : (((s[k].toNat : Int)) == 38) = true := by rw [h38]; rfl
        have hb60 : (((s[k].toNat : Int)) == 60) = false := by rw [h38]; rfl
        have hb62 : (((s[k].toNat : Int)) == 62) = false := by rw [h38]; rfl
        have hb34 : (((s[k].toNat : Int)) == 34) = false := by rw [h38]; rfl
        have hb194 : (((s[k].toNat : Int)) == 194) = false := by rw [h38]; rfl
        rw [esc_byte _ (fun e => absurd (h38.symm.trans e.1) (by decide)), h38, show e1 true 38 = L ⟨#[38, 97, 109, 112, 59]⟩ from rfl] at hc
        have HC := Lib.hid hc; clear hc h38
        go_wp2_with (at_builtin; refine app_str wr rfl (.tmp 27) (.const (.string ⟨#[38, 97, 109, 112, 59]⟩)) rfl w.heap.size _ acc ⟨#[38, 97, 109, 112, 59]⟩ rfl hown rfl (hl6 _ (by decide)) hN ?_; intro v4 w4 hown4 hk4)
        go_roundw
        case rel => exact ⟨k + 1, _, by go_num, by omega, hown4, by rw [List.append_assoc]; exact HC.out, hk4 _ hbel⟩
        case measure => simp [intOf]; omega
      by_cases h60 : s[k] = 60
      · have hb38 : (((s[k].toNat : Int)) == 38) = false := by rw [h60]; rfl
        have hb60 : (((s[k].toNat : Int)) == 60) = true := by rw [h60]; rfl
        have hb62 : (((s[k].toNat : Int)) == 62) = false := by rw [h60]; rfl
        have hb34 : (((s[k].toNat : Int)) == 34) = false := by rw [h60]; rfl
        have hb194 : (((s[k].toNat : Int)) == 194) = false := by rw [h60]; rfl
        rw [esc_byte _ (fun e => absurd (h60.symm.trans e.1) (by decide)), h60, show e1 true 60 = L ⟨#[38, 108, 116, 59]⟩ from rfl] at hc
        have HC := Lib.hid hc; clear hc h60
        go_wp2_with (at_builtin; refine app_str wr rfl (.tmp 32) (.const (.string ⟨#[38, 108, 116, 59]⟩)) rfl w.heap.size _ acc ⟨#[38, 108, 116, 59]⟩ rfl hown rfl (hl6 _ (by decide)) hN ?_; intro v4 w4 hown4 hk4)
        go_roundw
        case rel => exact ⟨k + 1, _, by go_num, by omega, hown4, by rw [List.append_assoc]; exact HC.out, hk4 _ hbel⟩
        case measure => simp [intOf]; omega
      by_cases h62 : s[k] = 62
      · have hb38 : (((s[k].toNat : Int)) == 38) = false := by rw [h62]; rfl
        have hb60 : (((s[k].toNat : Int)) == 60) = false := by rw [h62]; rfl
        have hb62 : (((s[k].toNat : Int)) == 62) = true := by rw [h62]; rfl
        have hb34 : (((s[k].toNat : Int)) == 34) = false := by rw [h62]; rfl
        have hb194 : (((s[k].toNat : Int)) == 194) = false := by rw [h62]; rfl
        rw [esc_byte _ (fun e => absurd (h62.symm.trans e.1) (by decide)), h62, show e1 true 62 = L ⟨#[38, 103, 116, 59]⟩ from rfl] at hc
        have HC := Lib.hid hc; clear hc h62
        go_wp2_with (at_builtin; refine app_str wr rfl (.tmp 37) (.const (.string ⟨#[38, 103, 116, 59]⟩)) rfl w.heap.size _ acc ⟨#[38, 103, 116, 59]⟩ rfl hown rfl (hl6 _ (by decide)) hN ?_; intro v4 w4 hown4 hk4)
        go_roundw
        case rel => exact ⟨k + 1, _, by go_num, by omega, hown4, by rw [List.append_assoc]; exact HC.out, hk4 _ hbel⟩
        case measure => simp [intOf]; omega
      by_cases h34 : s[k] = 34
      · have hb38 : (((s[k].toNat : Int)) == 38) = false := by rw [h34]; rfl
        have hb60 : (((s[k].toNat : Int)) == 60) = false := by rw [h34]; rfl
        have hb62 : (((s[k].toNat : Int)) == 62) = false := by rw [h34]; rfl
        have hb34 : (((s[k].toNat : Int)) == 34) = true := by rw [h34]; rfl
        have hb194 : (((s[k].toNat : Int)) == 194) = false := by rw [h34]; rfl
        rw [esc_byte _ (fun e => absurd (h34.symm.trans e.1) (by decide)), h34, show e1 true 34 = L ⟨#[38, 113, 117, 111, 116, 59]⟩ from rfl] at hc
        have HC := Lib.hid hc; clear hc h34
        go_wp2_with (at_builtin; refine app_str wr rfl (.tmp 45) (.const (.string ⟨#[38, 113, 117, 111, 116, 59]⟩)) rfl w.heap.size _ acc ⟨#[38, 113, 117, 111, 116, 59]⟩ rfl hown rfl (hl6 _ (by decide)) hN ?_; intro v4 w4 hown4 hk4)
        go_roundw
        case rel => exact ⟨k + 1, _, by go_num, by omega, hown4, by rw [List.append_assoc]; exact HC.out, hk4 _ hbel⟩
        case measure => simp [intOf]; omega
      have he1 : e1 true s[k] = [s[k]] := by simp [e1, h38, h60, h62, h34]
      have hb38 : (((s[k].toNat : Int)) == 38) = false := u8_ne (b := 38) h38
      have hb60 : (((s[k].toNat : Int)) == 60) = false := u8_ne (b := 60) h60
      have hb62 : (((s[k].toNat : Int)) == 62) = false := u8_ne (b := 62) h62
      have hb34 : (((s[k].toNat : Int)) == 34) = false := u8_ne (b := 34) h34
      clear h38 h60 h62 h34
      by_cases h194 : s[k] = 194
      · have hb194 : (((s[k].toNat : Int)) == 194) = true := by rw [h194]; rfl
        by_cases hk1 : k + 1 < s.size
        · have hd1 := drop_cons s (k + 1) hk1
          by_cases h160 : s[k + 1] = 160
          · have hb160 : (((s[k + 1].toNat : Int)) == 160) = true := by rw [h160]; rfl
            rw [hd1, h194, h160, esc_nbsp, show ([38, 110, 98, 115, 112, 59] : List UInt8) = L ⟨#[38, 110, 98, 115, 112, 59]⟩ from rfl] at hc
            have HC := Lib.hid hc; clear hc hd1 h194 h160 he1
            go_wp2_with (at_builtin; refine app_str wr rfl (.tmp 64) (.const (.string ⟨#[38, 110, 98, 115, 112, 59]⟩)) rfl w.heap.size _ acc ⟨#[38, 110, 98, 115, 112, 59]⟩ rfl hown rfl (hl6 _ (by decide)) hN ?_; intro v4 w4 hown4 hk4)
            go_roundw
            case rel => exact ⟨k + 2, _, by go_num, by omega, hown4, by rw [List.append_assoc]; exact HC.out, hk4 _ hbel⟩
            case measure => simp [intOf]; omega
          · have hb160 : (((s[k + 1].toNat : Int)) == 160) = false := u8_ne (b := 160) h160
            rw [esc_byte _ (by rw [hd1]; intro e; simp at e; exact h160 e.2), he1] at hc
            have HC := Lib.hid hc; clear hc hd1 h194 h160 he1
            go_wp2_with (at_builtin; refine app_byte wr rfl (.tmp 20) (.tmp 22) rfl w.heap.size _ acc s[k] rfl hown rfl hl1 hN ?_; intro v4 w4 hown4 hk4)
            go_roundw
            case rel => exact ⟨k + 1, acc ++ [s[k]], by go_num, by omega, hown4, by rw [List.append_assoc]; exact HC.out, hk4 _ hbel⟩
            case measure => simp [intOf]; omega
        · rw [esc_byte _ (by rw [drop_nil s (k + 1) hk1]; intro e; simp at e), he1] at hc
          have HC := Lib.hid hc; clear hc h194 he1
          go_wp2_with (at_builtin; refine app_byte wr rfl (.tmp 20) (.tmp 22) rfl w.heap.size _ acc s[k] rfl hown rfl hl1 hN ?_; intro v4 w4 hown4 hk4)
          go_roundw
          case rel => exact ⟨k + 1, acc ++ [s[k]], by go_num, by omega, hown4, by rw [List.append_assoc]; exact HC.out, hk4 _ hbel⟩
          case measure => simp [intOf]; omega
      · have hb194 : (((s[k].toNat : Int)) == 194) = false := u8_ne (b := 194) h194
        rw [esc_byte _ (fun e => h194 e.1), he1] at hc
        have HC := Lib.hid hc; clear hc h194 he1
        go_wp2_with (at_builtin; refine app_byte wr rfl (.tmp 20) (.tmp 22) rfl w.heap.size _ acc s[k] rfl hown rfl hl1 hN ?_; intro v4 w4 hown4 hk4)
        go_roundw
        case rel => exact ⟨k + 1, acc ++ [s[k]], by go_num, by omega, hown4, by rw [List.append_assoc]; exact HC.out, hk4 _ hbel⟩
        case measure => simp [intOf]; omega
    · have hcv := hown.string
      rw [drop_nil s k hp, esc_nil, List.append_nil] at hc
      subst hc
      clear hl6
      go_wp2
      go_ret
      exact ⟨rfl, hbel⟩

theorem text_any (s : ByteArray) (w : World) (hs : s.size ≤ 10000000) : Calls Tryz.prog 63 #[.string s] w fun e w' => e = .returned (.string (B (esc false (L s)))) ∧ Below w.heap.size w w' := by
  go_enter Tryz.func63, Tryz.ntmps63
  go_wp2_with fail
  refine (escaped_false s w hs).mono ?_
  rintro e w1 ⟨rfl, hb1⟩
  go_wp2
  go_ret
  exact ⟨rfl, hb1⟩
theorem valueOf_any (s : ByteArray) (w : World) (hs : s.size ≤ 10000000) : Calls Tryz.prog 84 #[.string s] w fun e w' => e = .returned (.string (B (esc true (L s)))) ∧ Below w.heap.size w w' := by
  go_enter Tryz.func84, Tryz.ntmps84
  go_wp2_with fail
  refine (escaped_true s w hs).mono ?_
  rintro e w1 ⟨rfl, hb1⟩
  go_wp2
  go_ret
  exact ⟨rfl, hb1⟩

end Go.Proofs.YteafldginkpgoaaGreat.Re

namespace Go.Proofs.YteafldginkpgoaaGreat.Tm
set_option maxRecDepth 100000
set_option linter.unusedVariables false
set_option linter.unusedSimpArgs false
open Ba Fm Rm Nm
open Ro (At)
/-- An element of this start tag has its text as it stands. -/
def rawT (t : Tk) : Bool := t.kind == 1 && isIn t.name rawL
def wAttr (a : At) : List UInt8 := [32] ++ (L a.name ++ ([61, 34] ++ (esc true (L a.value) ++ [34])))
def wStart (t : Tk) : List UInt8 := [60] ++ L t.name ++ t.attrs.flatMap wAttr ++ (if t.self = true then [32, 47] else []) ++ [62]
def w1 (raw : Bool) (t : Tk) : List UInt8 :=
  if t.kind = 0 then (if raw = true then L t.data else esc false (L t.data))
  else if t.kind = 1 then wStart t
  else if t.kind = 2 then [60, 47] ++ L t.name ++ [62]
  else if t.kind = 3 then [60, 33, 45, 45] ++ L t.data ++ [45, 45, 62]
  else if t.kind = 4 then [60, 33, 100, 111, 99, 116, 121, 112, 101, 32] ++ L t.data ++ [62]
  else []
/-- The tokens, written; raw: the one ahead was such a start tag. -/
def wAll (raw : Bool) : List Tk → List UInt8
  | [] => []
  | t :: r => w1 raw t ++ wAll (rawT t) r

theorem len_wAttr (a : At) : (wAttr a).length ≤ a.name.size + 6 * a.value.size + 4 := by
  have := (len_esc true (L a.value)).2.1
  unfold wAttr
  simp only [List.length_append, List.length_cons, List.length_nil, size_L]
  rw [size_L] at this
  omega
def bulkA (l : List At) : Nat := (l.map fun a => a.name.size + a.value.size).sum
theorem len_wAttrs : ∀ l : List At, (l.flatMap wAttr).length ≤ 6 * bulkA l + 4 * l.length
  | [] => by simp [bulkA]
  | a :: l => by
    have h1 := len_wAttr a
    have h2 := len_wAttrs l
    rw [List.flatMap_cons, List.length_append]
    unfold bulkA at h2 ⊢
    simp only [List.map_cons, List.sum_cons, List.length_cons]
    omega
end Go.Proofs.YteafldginkpgoaaGreat.Tm

namespace Go.Proofs.YteafldginkpgoaaGreat.To
set_option maxRecDepth 100000
set_option linter.unusedSimpArgs false
set_option linter.unusedVariables false
open Go.RowKit Ba Fm Fo Tm Nm
open Ro (At acells len_acells below_new Sh Ra acells_one info_attr)
open Re (Tab)
open Rm (dec esc)
/-- All blocks are kept that hold no bytes. -/
def Kb (w w' : World) : Prop := w.heap.size ≤ w'.heap.size ∧ ∀ (i : Nat) (cs : Array Value) (t : TypeId) (fr : Nat × Nat), w.heap[i]? = some (.cells cs t fr) → t ≠ 5 → w'.heap[i]? = w.heap[i]?
theorem Kb.refl (w : World) : Kb w w := ⟨Nat.le_refl _, fun _ _ _ _ _ _ => rfl⟩
theorem Kb.trans {a b c : World} (h : Kb a b) (k : Kb b c) : Kb a c := ⟨Nat.le_trans h.1 k.1, fun i cs t fr hi ht => by
  have h1 := h.2 i cs t fr hi ht
  exact (k.2 i cs t fr (h1.trans hi) ht).trans h1⟩
theorem Kb.below {w w' : World} (h : Below w.heap.size w w') : Kb w w' := ⟨h.size, fun i cs t fr hi _ => h.block i (Array.getElem?_eq_some_iff.1 hi).1⟩
theorem own_ne {N b : Nat} {w : World} {v : Value} {l : List UInt8} (h : OwnB N w v l) {cs : Array Value} {t : TypeId} {fr : Nat × Nat} (hb : w.heap[b]? = some (.cells cs t fr)) (ht : t ≠ 5) : v.ownBlock ≠ some b := by
  rcases h.2 with ⟨rfl, _⟩ | ⟨g, cap, cur, rfl, _, hh, _⟩
  · simp [Value.ownBlock]
  · intro e
    have e : g = b := by simpa [Value.ownBlock] using e
    subst e
    rw [hb] at hh
    injection hh with hh
    injection hh with _ h2
    exact ht h2
theorem Kb.grown {N : Nat} {w w' : World} {v : Value} {l : List UInt8} (h : OwnB N w v l) (hg : w.grownBy w' v.ownBlock) : Kb w w' :=
  ⟨hg.size, fun i cs t fr hi ht => hg.block i (Array.getElem?_eq_some_iff.1 hi).1 fun e => own_ne h hi ht e.symm⟩
/-- append of a string's bytes onto bytes of the call's own: what is kept. -/
theorem app_strk {ops : Array Oper} {rest : List Oper} {o : Oper} {a : Act} {Q : Exit → Act → World → Prop} (w : World) (hgd : o.guard = none) (s x : Operand)
    (ho : o.op = .call { callee := .builtin .append, args := #[s, x], argTypes := #[50, 9] })
    (N : Nat) (v : Value) (l : List UInt8) (t : ByteArray) (hs : a.eval s = v) (hown : OwnB N w v l) (hx : a.eval x = .string t)
    (hl : l.length + t.size ≤ 140737488355328) (hN : N ≤ w.heap.size)
    (h : ∀ v' w', OwnB N w' v' (l ++ L t) → Below N w w' → Kb w w' → wpList Tryz.prog ops Q rest (a.put o.dst v') w') :
    wpList Tryz.prog ops Q (o :: rest) a w := by
  obtain ⟨i0, hi, hz0, hz1, hz2⟩ := info_parts info_u8
  refine Lib.wpList_append_own_string _ hgd s x 50 9 ho N 5 i0 Tryz.underlying50 Tryz.underlying9 hi hz0 hz1 hz2 v l.length (l.map bc) hs hown t hx (by unfold maxLen; omega) hl hN ?_
  intro v2 w2 hown2 hgrow2 _
  rw [strCells_b] at hown2
  exact h v2 w2 (OwnB.appended hown2 (by rw [size_L])) (hown.below hgrow2 (Below.refl _ _) hN) (Kb.grown hown hgrow2)

/-- Block g holds these strings. -/
def Ls (w : World) (g : Nat) (l : List ByteArray) : Prop := w.heap[g]? = some (.cells (l.map sc).toArray 9)
theorem Ls.new (w : World) (l : List ByteArray) : Ls (w.alloc (.cells (l.map sc).toArray 9)) w.heap.size l := (MapKept.heap_alloc w _).1
theorem Ls.kb {w w' : World} {g : Nat} {l : List ByteArray} (h : Ls w g l) (k : Kb w w') : Ls w' g l := (k.2 g _ _ _ h (by decide)).trans h
theorem Ls.cell {w : World} {g : Nat} {l : List ByteArray} (h : Ls w g l) (j : Nat) (hj : j < l.length) : w.cell? ⟨g, j, none⟩ = some (.string l[j]) := by
  rw [cell_of_row w g j _ _ _ h]
  simp [sc, hj]

theorem flat_take (l : List ByteArray) (k : Nat) (h : k < l.length) : (l.take (k + 1)).flatMap L = (l.take k).flatMap L ++ L l[k] := by
  rw [List.take_succ_eq_append_getElem h, List.flatMap_append]
  simp
theorem flat_le (l : List ByteArray) (k : Nat) (h : k < l.length) : ((l.take k).flatMap L).length + l[k].size ≤ (l.flatMap L).length := by
  have e : l.flatMap L = (l.take (k + 1)).flatMap L ++ (l.drop (k + 1)).flatMap L := by rw [← List.flatMap_append, List.take_append_drop]
  rw [e, flat_take l k h, List.length_append, List.length_append, size_L]
  omega
end Go.Proofs.YteafldginkpgoaaGreat.To

namespace Go.Proofs.YteafldginkpgoaaGreat.To
set_option maxRecDepth 100000
set_option linter.unusedSimpArgs false
set_option linter.unusedVariables false
open Go.RowKit Ba Fm Fo Tm Nm
open Ro (At acells len_acells below_new Sh Ra acells_one info_attr range2)
open Re (Tab)
open Rm (dec esc)
theorem Bx.kb {w w' : World} {g : Nat} {x y : ByteArray} (h : Bx w g x y) (k : Kb w w') : Bx w' g x y := (k.2 g _ _ _ h (by decide)).trans h
theorem Kb.alloc (w : World) (o : Obj) : Kb w (w.alloc o) := Kb.below (below_new w o)
theorem Ra.bl {w w' : World} {N M : Nat} {A : Option Addr} {l : List At} (h : Ra w N A l) (hb : Below M w w') (hN : N ≤ M) : Ra w' N A l := Ro.Ra.below h hb hN

theorem flat2 (a b : ByteArray) : [a, b].flatMap L = L a ++ L b := by rw [List.flatMap_cons, List.flatMap_cons, List.flatMap_nil, List.append_nil]
theorem flat3 (a b c : ByteArray) : [a, b, c].flatMap L = L a ++ (L b ++ L c) := by rw [List.flatMap_cons, flat2]
theorem flat5 (a b c d e : ByteArray) : [a, b, c, d, e].flatMap L = L a ++ (L b ++ (L c ++ (L d ++ L e))) := by rw [List.flatMap_cons, List.flatMap_cons, flat3]
theorem sum_le (l : List At) (k : Nat) (h : k < l.length) : ((l.take k).flatMap wAttr).length + (wAttr l[k]).length ≤ (l.flatMap wAttr).length := by
  have e : l.flatMap wAttr = (l.take (k + 1)).flatMap wAttr ++ (l.drop (k + 1)).flatMap wAttr := by rw [← List.flatMap_append, List.take_append_drop]
  rw [e, List.take_succ_eq_append_getElem h, List.flatMap_append, List.length_append, List.length_append]
  simp
theorem attr_take (l : List At) (k : Nat) (h : k < l.length) : (l.take (k + 1)).flatMap wAttr = (l.take k).flatMap wAttr ++ wAttr l[k] := by
  rw [List.take_succ_eq_append_getElem h, List.flatMap_append]
  simp
theorem bulk_at (l : List At) (k : Nat) (h : k < l.length) : l[k].name.size + l[k].value.size ≤ bulkA l := by
  induction l generalizing k with
  | nil => simp at h
  | cons a r ih =>
    unfold bulkA at ih ⊢
    simp only [List.map_cons, List.sum_cons]
    cases k with
    | zero => simp
    | succ k =>
      have := ih k (by simpa using h)
      have e : (a :: r)[k + 1] = r[k]'(by simpa using h) := rfl
      rw [e]
      omega

end Go.Proofs.YteafldginkpgoaaGreat.To

namespace Go.Proofs.YteafldginkpgoaaGreat.To
set_option maxRecDepth 100000
set_option linter.unusedSimpArgs false
set_option linter.unusedVariables false
open Go.RowKit Ba Fm Fo Tm Nm
open Ro (At acells len_acells below_new Sh Ra acells_one info_attr range2 range5)
open Re (Tab)
open Rm (dec esc)
end Go.Proofs.YteafldginkpgoaaGreat.To

namespace Go.Proofs.YteafldginkpgoaaGreat.Tm
set_option linter.unusedVariables false
set_option linter.unusedSimpArgs false
open Ba Fm Rm Nm
open Ro (At)
theorem begins {r : List UInt8} (h : begun r ≠ 0) : lead bg r = [] ∧ trail bg r = r := by
  have hb : bg r = true := decide_eq_true h
  cases r with
  | nil => exact ⟨rfl, rfl⟩
  | cons c q => exact ⟨lead_yes hb, trail_yes hb⟩

end Go.Proofs.YteafldginkpgoaaGreat.Tm

namespace Go.Proofs.YteafldginkpgoaaGreat.Tm
set_option linter.unusedVariables false
set_option linter.unusedSimpArgs false
open Ba Fm Rm Nm
open Ro (At)
end Go.Proofs.YteafldginkpgoaaGreat.Tm

namespace Go.Proofs.YteafldginkpgoaaGreat.Tm
set_option linter.unusedVariables false
set_option linter.unusedSimpArgs false
open Ba Fm Rm Nm
open Ro (At)
end Go.Proofs.YteafldginkpgoaaGreat.Tm

namespace Go.Proofs.YteafldginkpgoaaGreat.Tm
set_option linter.unusedVariables false
set_option linter.unusedSimpArgs false
open Ba Fm Rm Nm
open Ro (At)
theorem dec_esc_app (q : Bool) (l x : List UInt8) : dec (esc q l ++ x) = l ++ dec x := by
  refine writes q (Q := fun l => dec (esc q l ++ x) = l ++ dec x) (by rw [esc_nil]; rfl) (fun r ih => ?_) (fun c r hc ih => ?_) l
  · rw [esc_nbsp, List.append_assoc]
    refine (dec_ref (b := [110, 98, 115, 112]) (t := [194, 160]) (esc q r ++ x) (by decide) (by decide)).trans ?_
    rw [ih]; rfl
  · rw [esc_byte q hc, List.append_assoc]
    unfold e1
    split
    · rename_i e; subst e
      refine (dec_ref (b := [97, 109, 112]) (t := [38]) (esc q r ++ x) (by decide) (by decide)).trans ?_
      rw [ih]; rfl
    split
    · rename_i e; subst e
      refine (dec_ref (b := [108, 116]) (t := [60]) (esc q r ++ x) (by decide) (by decide)).trans ?_
      rw [ih]; rfl
    split
    · rename_i e; subst e
      refine (dec_ref (b := [103, 116]) (t := [62]) (esc q r ++ x) (by decide) (by decide)).trans ?_
      rw [ih]; rfl
    split
    · rename_i e; obtain ⟨rfl, _⟩ := e
      refine (dec_ref (b := [113, 117, 111, 116]) (t := [34]) (esc q r ++ x) (by decide) (by decide)).trans ?_
      rw [ih]; rfl
    · rename_i h _ _ _
      refine (dec_byte (esc q r ++ x) h).trans ?_
      rw [ih]; rfl

/-- A tag's name, as it is cut. -/
def nmOk (n : List UInt8) : Prop := by1 lr n = true ∧ ∀ c ∈ n, en c = false ∧ low c = c
/-- An attribute's name, as it is cut. -/
def aOk (a : At) : Prop := ∃ c t, L a.name = c :: t ∧ c ≠ 62 ∧ c ≠ 47 ∧ sp c = false ∧ low c = c ∧ ∀ x ∈ t, ea x = false ∧ low x = x
def asOk (l : List At) : Prop := (∀ a ∈ l, aOk a) ∧ l.Pairwise fun a b => a.name ≠ b.name
/-- A written text: decoded it is this, whatever stands behind it; it begins nothing. -/
def Clo (e p : List UInt8) : Prop := (60 : UInt8) ∉ e ∧ ∀ x, dec (e ++ x) = p ++ dec x
theorem Clo.esc {e p : List UInt8} (h : Clo e p) (d : List UInt8) : Clo (e ++ esc false d) (p ++ d) :=
  ⟨fun c => (List.mem_append.1 c).elim h.1 (esc_free false d).1, fun x => by rw [List.append_assoc, h.2, dec_esc_app, List.append_assoc]⟩
theorem Clo.dec {e p : List UInt8} (h : Clo e p) : dec e = p := by
  have := h.2 []
  rwa [List.append_nil, Rm.dec_nil, List.append_nil] at this
/-- An element of this name has text alone. -/
def softOr (n : List UInt8) : Bool := rawB n || softB n
/-- Lists of tokens as a document has them. -/
inductive Good : List Tk → Prop
  | nil : Good []
  | text (d : List UInt8) (r : List Tk) : d ≠ [] → Good r → Good (tx d :: r)
  | comment (d : List UInt8) (r : List Tk) : (∀ x, comm (d ++ ([45, 45, 62] ++ x)) = (d, x)) → Good r → Good (⟨3, B [], B d, [], false⟩ :: r)
  | doctype (d : List UInt8) (r : List Tk) : (62 : UInt8) ∉ d → trimL d = d → Good r → Good (⟨4, B [], B d, [], false⟩ :: r)
  | end_ (n : List UInt8) (r : List Tk) : nmOk n → Good r → Good (⟨2, B n, B [], [], false⟩ :: r)
  | start (n : List UInt8) (l : List At) (sf : Bool) (r : List Tk) : nmOk n → asOk l → softOr n = false → Good r → Good (⟨1, B n, B [], l, sf⟩ :: r)
  | raw (n : List UInt8) (l : List At) (sf : Bool) (d : List UInt8) (r : List Tk) : nmOk n → asOk l → rawB n = true → d ≠ [] → lead (isEnd n) (d ++ wAll false r) = d → trail (isEnd n) (d ++ wAll false r) = wAll false r → Good r → Good (⟨1, B n, B [], l, sf⟩ :: tx d :: r)
  | soft (n : List UInt8) (l : List At) (sf : Bool) (d : List UInt8) (r : List Tk) : nmOk n → asOk l → rawB n = false → softB n = true → d ≠ [] → lead (isEnd n) (esc false d ++ wAll false r) = esc false d → trail (isEnd n) (esc false d ++ wAll false r) = wAll false r → Good r → Good (⟨1, B n, B [], l, sf⟩ :: tx d :: r)
  | none_ (n : List UInt8) (l : List At) (sf : Bool) (r : List Tk) : nmOk n → asOk l → softOr n = true → (∀ d q, r ≠ tx d :: q) → wAll true r = wAll false r → lead (isEnd n) (wAll false r) = [] → trail (isEnd n) (wAll false r) = wAll false r → Good r → Good (⟨1, B n, B [], l, sf⟩ :: r)

end Go.Proofs.YteafldginkpgoaaGreat.Tm

namespace Go.Proofs.YteafldginkpgoaaGreat.Tm
set_option linter.unusedVariables false
set_option linter.unusedSimpArgs false
open Ba Fm Rm Nm
open Ro (At)
theorem u8_ext {a b : UInt8} (h : a.toNat = b.toNat) : a = b := UInt8.toNat.inj h
end Go.Proofs.YteafldginkpgoaaGreat.Tm

namespace Go.Proofs.YteafldginkpgoaaGreat.Tm
set_option linter.unusedVariables false
set_option linter.unusedSimpArgs false
open Ba Fm Rm Nm
open Ro (At)
/-- The token of an element that has text alone. -/
def holds (t : Tk) : Bool := t.kind == 1 && softOr (L t.name)
theorem wAll_cons (raw : Bool) (t : Tk) (r : List Tk) : wAll raw (t :: r) = w1 raw t ++ wAll (rawT t) r := rfl
theorem w1_end (raw : Bool) (n x : List UInt8) : w1 raw ⟨2, B n, B [], [], false⟩ ++ x = 60 :: 47 :: (n ++ 62 :: x) := by
  unfold w1
  rw [if_neg (show (2 : Int) ≠ 0 by decide), if_neg (show (2 : Int) ≠ 1 by decide), if_pos rfl]
  show ([60, 47] ++ L (B n) ++ [62]) ++ x = _
  rw [L_B]
  simp only [List.append_assoc, List.cons_append, List.nil_append]
end Go.Proofs.YteafldginkpgoaaGreat.Tm

namespace Go.Proofs.YteafldginkpgoaaGreat.Bm
set_option linter.unusedVariables false
set_option linter.unusedSimpArgs false
open Ba Fm Rm Nm
open Ro (At Ro)
open Tm (Tk put cut txt tx nmOk softOr Clo begun mk startTag endTag)
/-- A tag that begins, one that ends. -/
abbrev tagB (n : List UInt8) : Tk := ⟨1, B n, B [], [], false⟩
/-- A name that closes nothing, and is no name without elements, void, or nothing. -/
structure Free (n : List UInt8) : Prop where
  some : noName (B n) = false
  open_ : isIn (B n) voidL = false
  free : closesL (B n) = []
theorem step_k1 {st : St} {t : Tk} (h : t.kind = 1) (hn : noName t.name = false) : stepB st t = ⟨if isIn t.name voidL = true then openedS t.name st.stk else t.name :: openedS t.name st.stk, st.out ++ [⟨(openedS t.name st.stk).length, 0, t.name, ⟨#[]⟩, once t.attrs⟩]⟩ := by
  unfold stepB
  rw [if_neg (by rw [h]; decide), if_neg (by rw [h]; decide), if_pos h, if_neg (by rw [hn]; simp)]
theorem step_begin {n : List UInt8} (h : Free n) (s : List ByteArray) (o : List Ro) : stepB ⟨s, o⟩ (tagB n) = ⟨B n :: s, o ++ [⟨s.length, 0, B n, ⟨#[]⟩, []⟩]⟩ := by
  rw [step_k1 (t := tagB n) rfl h.some]
  show (⟨if isIn (B n) voidL = true then openedS (B n) s else B n :: openedS (B n) s, o ++ [⟨(openedS (B n) s).length, 0, B n, ⟨#[]⟩, once []⟩]⟩ : St) = _
  rw [opened_free h.free, if_neg (by rw [h.open_]; simp)]
  rfl
/-- Elements within one another: sixty may be, one more is refused. -/
theorem deep {n : List UInt8} (h : Free n) : ∀ (m k : Nat) (o : List Ro), o.length = k → k ≤ 60 →
    (k + m ≤ 60 → ∃ o', treeB ⟨List.replicate k (B n), o⟩ (List.replicate m (tagB n)) = some o' ∧ o'.length = k + m) ∧
    (60 < k + m → treeB ⟨List.replicate k (B n), o⟩ (List.replicate m (tagB n)) = none)
  | 0, k, o, ho, hk => ⟨fun _ => ⟨o, rfl, by omega⟩, fun c => by omega⟩
  | m + 1, k, o, ho, hk => by
    have hs := step_begin h (List.replicate k (B n)) o
    have hb : tooBig (o ++ [⟨k, 0, B n, ⟨#[]⟩, []⟩]) = decide (60 ≤ k) := by
      unfold tooBig
      rw [List.getLast?_append, List.length_append, ho]
      show (decide (4096 < k + 1) || decide ((60 : Int) ≤ k)) = _
      rw [decide_eq_false (by omega), Bool.false_or]
      by_cases h6 : 60 ≤ k
      · rw [decide_eq_true h6, decide_eq_true (by omega)]
      · rw [decide_eq_false h6, decide_eq_false (by omega)]
    rw [List.length_replicate] at hs
    rw [List.replicate_succ, treeB, hs]
    show _ ∧ (_ → (if tooBig (o ++ [⟨k, 0, B n, ⟨#[]⟩, []⟩]) = true then none else _) = none)
    rw [hb]
    by_cases h6 : 60 ≤ k
    · refine ⟨fun c => by omega, fun _ => by rw [if_pos (decide_eq_true h6)]⟩
    · obtain ⟨a, b⟩ := deep h m (k + 1) (o ++ [⟨k, 0, B n, ⟨#[]⟩, []⟩]) (by rw [List.length_append, ho]; rfl) (by omega)
      rw [if_neg (by rw [decide_eq_false h6]; simp)]
      refine ⟨fun c => ?_, fun c => b (by omega)⟩
      obtain ⟨o', e, l⟩ := a (by omega)
      exact ⟨o', e, by omega⟩
end Go.Proofs.YteafldginkpgoaaGreat.Bm

namespace Go.Proofs.YteafldginkpgoaaGreat.Tm
set_option linter.unusedVariables false
set_option linter.unusedSimpArgs false
open Ba Fm Rm Nm
open Ro (At)
/-- What an end of an element of text alone is cut as. -/
def EndOf (n : List UInt8) (R : List Tk) : Prop := R = [] ∨ ∃ r, R = ⟨2, B n, B [], [], false⟩ :: r
theorem EndOf.w {n : List UInt8} {R : List Tk} (h : EndOf n R) : (∀ raw, wAll raw R = wAll false R) ∧ (∀ d q, R ≠ tx d :: q) ∧ (wAll false R = [] ∨ ∃ X, wAll false R = 60 :: 47 :: (n ++ 62 :: X)) := by
  rcases h with rfl | ⟨r, rfl⟩
  · exact ⟨fun _ => rfl, fun d q e => (nomatch e), .inl rfl⟩
  · refine ⟨fun raw => by rw [wAll_cons, wAll_cons, w1_end, w1_end], fun d q e => ?_, .inr ⟨_, by rw [wAll_cons, w1_end]⟩⟩
    injection e with e _
    have := congrArg Tk.kind e
    exact absurd (show (2 : Int) = 0 from this) (by decide)
end Go.Proofs.YteafldginkpgoaaGreat.Tm

namespace Go.Proofs.YteafldginkpgoaaGreat.Wm
set_option linter.unusedVariables false
set_option linter.unusedSimpArgs false
open Ba Fm Rm Nm Bm
open Ro (At Ro)
open Tm (Tk tx txt wAll EndOf nmOk asOk softOr rawB softB isEnd lead trail comm)
def tk (x : Ro) : Tk := if x.kind = 1 then ⟨0, ⟨#[]⟩, x.data, [], false⟩ else if x.kind = 2 then ⟨3, ⟨#[]⟩, x.data, [], false⟩ else ⟨1, x.name, ⟨#[]⟩, x.attrs, false⟩
theorem kinds {x : Ro} (h : Ro.okRow x = true) : x.kind = 0 ∨ x.kind = 1 ∨ x.kind = 2 := by
  unfold Ro.okRow at h
  by_cases h0 : x.kind = 0
  · exact .inl h0
  · rw [if_neg (by simpa using h0)] at h
    simp only [Bool.and_eq_true, Bool.or_eq_true, beq_iff_eq] at h
    exact .inr h.1.1
theorem holds_no {x : Ro} (h : x.kind ≠ 0) : holds x = false := by
  unfold holds
  rw [beq_eq_false_iff_ne.2 h, Bool.false_and]
theorem raw_row {x : Ro} (h : Ro.okRow x = true) (hk : x.kind = 0) : x = ⟨x.depth, 0, x.name, ⟨#[]⟩, x.attrs⟩ ∧ x.name ≠ ⟨#[]⟩ := by
  unfold Ro.okRow at h
  rw [if_pos (by rw [hk]; rfl)] at h
  simp only [Bool.and_eq_true, Bool.not_eq_true'] at h
  obtain ⟨⟨h1, h2⟩, h3⟩ := h
  have hd := empty_name h2
  refine ⟨?_, fun e => ?_⟩
  · rcases x with ⟨d, k, n, t, a⟩
    simp only at hk hd
    subst hk hd
    rfl
  · rw [e] at h1
    exact absurd (show (⟨#[]⟩ : ByteArray).toList.isEmpty = true from nil_empty) (by rw [h1]; simp)
theorem mem_tw {α : Type} (p : α → Bool) : ∀ (l : List α), ∀ x ∈ l.takeWhile p, p x = true
  | [], x, h => by cases h
  | a :: l, x, h => by
    rw [List.takeWhile_cons] at h
    split at h
    · rename_i ha
      rcases List.mem_cons.1 h with e | e
      · rw [e]; exact ha
      · exact mem_tw p l x e
    · cases h
end Go.Proofs.YteafldginkpgoaaGreat.Wm
