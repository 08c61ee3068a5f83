/-
  Tokens have no more than twice what the document has.
  Plain mathematics on bytes as characters: what one step of a division finds at the head of a list of bytes, and what is made of it (decoded, right, counted, sampled, lines). It speaks of no program.
  Plain mathematics: a list of bytes divided from its beginning on, and what is told of that: decoded, right, how many, the first ones, one end of lines; and what holds of these for every list.
  Walks of stage 1: chars.Count, chars.startsReplaced, chars.Sample: each returns what the plain function of CharsSpec says, for every string.
  Walks of stage 1: chars.Decode, chars.Lines, chars.Ready: each returns the string that the plain function of CharsSpec says, where that string and the argument have at most 2^47 bytes.
  Walks of stage 1: chars.Lines, chars.Ready: each returns the string that the plain function of CharsSpec says, where that string and the argument have at most 2^47 bytes.
  Walks of stage 7: In, Parse.
  Tokens of documents that are written out: the same functions by steps that are counted, so that they can be reckoned.
  Stage 7, in plain words: trees of given bytes, reckoned; nothing of the program.
  Stage 3: where the package's table reads as its text lays it, the walks' table is there; the door's own heap is such a world.
  Stage 7: the calls whose answers the document fixes.
-/
import Derived.Test.YtoijeljjehjfjaaDoorCk07
import Derived.Laws.RangeAny
import Derived.Test.YtoijeljjehjfjaaDoorRows
import Derived.WalkKit
import Derived.WalkSpells
import Derived.Lib.OthersKept
import Derived.Lib.Hide
import Derived.Lib.Strings
import Derived.OpenShut
import Derived.WalkLawsBesides
import Derived.Lib.AppendStr
import Derived.WalkSmall
import Derived.Laws.IdiomStrings
import Derived.Test.YtoijeljjehjfjaaDoorCk06
import Derived.Test.YtoijeljjehjfjaaDoorCk02
import Derived.Test.YtoijeljjehjfjaaDoorCk04
import Derived.ProofKit
import Derived.LaidMore
import Derived.Stop.Joined
import Derived.Test.YtoijeljjehjfjaaDoorCk03
namespace Go.Proofs.YtoijeljjehjfjaaDoor.Tm
set_option linter.unusedVariables false
set_option linter.unusedSimpArgs false
open Ba Fm Rm Nm
open Ro (At)
theorem sum_trail (p : List UInt8 → Bool) (l : List UInt8) : (lead p l).length + (trail p l).length = l.length := by
  have := congrArg List.length (lead_trail p l)
  rwa [List.length_append] at this
theorem sum_quo (q : UInt8) (r : List UInt8) : (quo q r).1.length + (quo q r).2.length ≤ r.length := by
  have := sum_trail (by1 (is q)) r
  show (lead _ r).length + ((trail _ r).drop 1).length ≤ _
  rw [List.length_drop]
  omega
theorem sum_value (l : List UInt8) : (value l).1.length + (value l).2.length ≤ l.length := by
  have h1 := sum_quo 34 (l.drop 1)
  have h2 := sum_quo 39 (l.drop 1)
  have h3 := sum_trail (by1 ev) l
  rw [List.length_drop] at h1 h2
  unfold value
  split
  · omega
  · split
    · omega
    · show (lead (by1 ev) l).length + (trail (by1 ev) l).length ≤ _
      omega
theorem sum_valued (l : List UInt8) : (valued l).1.length + (valued l).2.length ≤ l.length := by
  have h1 := sum_value (trimS (l.drop 1))
  have h2 := len_trimS (l.drop 1)
  have h3 := len_dec (value (trimS (l.drop 1))).1
  rw [List.length_drop] at h2
  unfold valued
  split
  · show (dec _).length + (value _).2.length ≤ _
    omega
  · show 0 + l.length ≤ _
    omega
theorem sum_attr (c : UInt8) (r : List UInt8) : (attr c r).1.name.size + (attr c r).1.value.size + (attr c r).2.length ≤ r.length + 1 := by
  have h1 := sum_valued (trimS (from_ ea r))
  have h2 := len_trimS (from_ ea r)
  have h3 := sum_trail (by1 ea) r
  show (B (lowL (c :: upTo ea r))).size + (B (valued (trimS (from_ ea r))).1).size + (valued (trimS (from_ ea r))).2.length ≤ _
  rw [size_B, size_B, len_lowL, List.length_cons]
  have h4 : (from_ ea r).length = (trail (by1 ea) r).length := rfl
  have h5 : (upTo ea r).length = (lead (by1 ea) r).length := rfl
  omega
theorem bulkA_append (l : List At) (a : At) : bulkA (l ++ [a]) = bulkA l + (a.name.size + a.value.size) := by
  unfold bulkA
  rw [List.map_append, List.sum_append]
  simp
theorem sum_put (l : List At) (a : At) : bulkA (put l a) + (put l a).length ≤ bulkA l + l.length + (a.name.size + a.value.size + 1) := by
  unfold put
  split
  · omega
  · rw [bulkA_append, List.length_append]
    show _ + (_ + 1) ≤ _
    omega
theorem sum_attrs (l : List UInt8) : ∀ (self : Bool) (acc bs : List At) (sf : Bool) (r : List UInt8), attrs self acc l = some (bs, sf, r) → bulkA bs + bs.length + 2 * r.length ≤ bulkA acc + acc.length + 2 * l.length := by
  induction hn : l.length using Nat.strongRecOn generalizing l with
  | ind n ih =>
    intro self acc bs sf r h
    subst hn
    cases l with
    | nil => rw [attrs_nil] at h; cases h
    | cons c q =>
      by_cases h1 : c = 62
      · subst h1
        rw [attrs_end] at h
        injection h with h
        injection h with h h'
        injection h' with _ h'
        rw [← h, ← h', List.length_cons]
        omega
      · by_cases h2 : c = 47 ∨ sp c = true
        · rw [attrs_skip _ _ _ h1 h2] at h
          have := ih q.length (by simp) q rfl _ _ _ _ _ h
          rw [List.length_cons]
          omega
        · rw [attrs_attr _ _ _ h1 h2] at h
          have hq := sum_attr c q
          have hl := len_attr c q
          have hp := sum_put acc (attr c q).1
          have := ih (attr c q).2.length (by simp only [List.length_cons]; omega) _ rfl _ _ _ _ _ h
          rw [List.length_cons]
          omega
theorem bulk_append (a b : List Tk) : bulk (a ++ b) = bulk a + bulk b := by
  unfold bulk
  rw [List.map_append, List.sum_append]
theorem bulk_one (t : Tk) : bulk [t] = bulkT t := by simp [bulk]
theorem bulk_txt (d : List UInt8) : bulk (txt d) ≤ d.length := by
  unfold txt
  split
  · exact Nat.zero_le _
  · rw [bulk_one]
    show 0 + (B d).size + 0 + 0 ≤ _
    rw [size_B]
    omega
theorem sum_cont (n l : List UInt8) : bulk (cont n l).1 + (cont n l).2.length ≤ l.length := by
  have h1 := sum_trail (isEnd n) l
  unfold cont
  split
  · have := bulk_txt (lead (isEnd n) l)
    show bulk (txt _) + (trail _ l).length ≤ _
    omega
  · split
    · have := bulk_txt (dec (lead (isEnd n) l))
      have := len_dec (lead (isEnd n) l)
      show bulk (txt _) + (trail _ l).length ≤ _
      omega
    · show 0 + l.length ≤ _
      omega
theorem sum_start (l : List UInt8) : bulk (startTag l).1 + 2 * (startTag l).2.length ≤ 2 * l.length ∧ bulk (endTag l).1 + 2 * (endTag l).2.length ≤ 2 * l.length := by
  have h0 := sum_trail (by1 en) l
  cases ha : attrs false [] (from_ en l) with
  | none =>
    rw [(To.start_no ha).1, (To.start_no ha).2]
    exact ⟨Nat.zero_le _, Nat.zero_le _⟩
  | some x =>
    obtain ⟨bs, sf, r⟩ := x
    rw [(To.start_yes ha).1, (To.start_yes ha).2]
    have h1 := sum_attrs _ _ _ _ _ _ ha
    have h2 := sum_cont (lowL (upTo en l)) r
    have h3 : (B (lowL (upTo en l))).size = (lead (by1 en) l).length := by rw [size_B, len_lowL]
    have h4 : (from_ en l).length = (trail (by1 en) l).length := rfl
    have h5 : bulkA ([] : List At) + ([] : List At).length = 0 := rfl
    have e1 : bulkT ⟨1, B (lowL (upTo en l)), B [], bs, sf⟩ = (B (lowL (upTo en l))).size + 0 + bulkA bs + bs.length := rfl
    have e2 : bulkT ⟨2, B (lowL (upTo en l)), B [], [], false⟩ = (B (lowL (upTo en l))).size + 0 + 0 + 0 := rfl
    refine ⟨?_, ?_⟩
    · show bulk (_ :: (cont _ r).1) + 2 * (cont _ r).2.length ≤ _
      rw [To.bulk_cons]
      omega
    · show bulk [_] + 2 * r.length ≤ _
      rw [bulk_one]
      omega
theorem sum_comm (l : List UInt8) : (comm l).1.length + (comm l).2.length ≤ l.length := by
  have h := sum_trail cend l
  unfold comm
  split
  · show 0 + (l.drop 1).length ≤ _
    rw [List.length_drop]; omega
  · split
    · show 0 + (l.drop 2).length ≤ _
      rw [List.length_drop]; omega
    · show (lead cend l).length + ((trail cend l).drop _).length ≤ _
      rw [List.length_drop]; omega
theorem sum_closed (l : List UInt8) : (closed l).1.length + (closed l).2.length ≤ l.length := by
  have h := sum_trail (by1 gt) l
  show (lead (by1 gt) l).length + ((trail (by1 gt) l).drop 1).length ≤ _
  rw [List.length_drop]; omega
theorem sum_mk (l : List UInt8) : bulk (mk l).1 + 2 * (mk l).2.length ≤ 2 * l.length := by
  have d1 : (l.drop 1).length ≤ l.length := by rw [List.length_drop]; omega
  have d2 : (l.drop 2).length ≤ l.length := by rw [List.length_drop]; omega
  have d3 : (l.drop 3).length ≤ l.length := by rw [List.length_drop]; omega
  have d4 : (l.drop 4).length ≤ l.length := by rw [List.length_drop]; omega
  have d9 : (l.drop 9).length ≤ l.length := by rw [List.length_drop]; omega
  by_cases h1 : begun l = 1
  · rw [To.mk_1 h1]; have := (sum_start (l.drop 1)).1; omega
  by_cases h2 : begun l = 2
  · rw [To.mk_2 h2]; have := (sum_start (l.drop 2)).2; omega
  by_cases h3 : begun l = 3
  · rw [To.mk_3 h3]; show 0 + 2 * (l.drop 3).length ≤ _; omega
  by_cases h4 : begun l = 4
  · rw [To.mk_4 h4]
    have := sum_comm (l.drop 4)
    show bulk [_] + 2 * (comm (l.drop 4)).2.length ≤ _
    rw [bulk_one]
    show 0 + (B (comm (l.drop 4)).1).size + 0 + 0 + _ ≤ _
    rw [size_B]
    omega
  by_cases h5 : begun l = 5
  · rw [To.mk_5 h5]
    have := sum_closed (l.drop 9)
    have := len_trimL (closed (l.drop 9)).1
    show bulk [_] + 2 * (closed (l.drop 9)).2.length ≤ _
    rw [bulk_one]
    show 0 + (B (trimL (closed (l.drop 9)).1)).size + 0 + 0 + _ ≤ _
    rw [size_B]
    omega
  by_cases h6 : begun l = 6
  · rw [To.mk_6 h6]
    have := sum_closed (marks (l.drop 1))
    have := To.len_marks (l.drop 1)
    show bulk [_] + 2 * (closed (marks (l.drop 1))).2.length ≤ _
    rw [bulk_one]
    show 0 + (B (closed (marks (l.drop 1))).1).size + 0 + 0 + _ ≤ _
    rw [size_B]
    omega
  · rw [To.mk_0 h1 h2 h3 h4 h5 h6]; show 0 + 2 * l.length ≤ _; omega
theorem sum_turn (l : List UInt8) : bulk (turn l).1 + 2 * (turn l).2.length ≤ 2 * l.length := by
  show bulk (txt (dec (lead bg l)) ++ (mk (trail bg l)).1) + 2 * (mk (trail bg l)).2.length ≤ _
  rw [bulk_append]
  have h1 := sum_trail bg l
  have h2 := sum_mk (trail bg l)
  have h3 := bulk_txt (dec (lead bg l))
  have h4 := len_dec (lead bg l)
  omega
theorem bulk_cut (l : List UInt8) : bulk (cut l) ≤ 2 * l.length := by
  induction hn : l.length using Nat.strongRecOn generalizing l with
  | ind n ih =>
    subst hn
    by_cases h : l = []
    · rw [h, To.cut_nil]; exact Nat.zero_le _
    · have h1 := To.len_turn h
      have h2 := sum_turn l
      have h3 := ih _ h1 _ rfl
      rw [To.cut_step h, bulk_append]
      omega
theorem bulk_within (n l : List UInt8) : bulk (within n l) ≤ 2 * l.length := by
  unfold within
  rw [bulk_append]
  have h1 := bulk_cut (cont n l).2
  have h2 := sum_cont n l
  omega
theorem bulk_mem {l : List Tk} {t : Tk} (h : t ∈ l) : bulkT t ≤ bulk l := by
  induction l with
  | nil => cases h
  | cons a r ih =>
    rw [To.bulk_cons]
    rcases List.mem_cons.1 h with e | e
    · rw [e]; omega
    · have := ih e; omega

end Go.Proofs.YtoijeljjehjfjaaDoor.Tm

namespace Go.Proofs.YtoijeljjehjfjaaDoor.Ch
set_option linter.unusedSimpArgs false
set_option linter.unusedVariables false

def at' (l : List UInt8) (k : Nat) : Nat := (l.getD k 0).toNat

def inn (l : List UInt8) (k lo hi : Nat) : Bool := decide (k < l.length) && (decide (lo ≤ at' l k) && decide (at' l k ≤ hi))

def low (c : Nat) : Nat := if c = 0xe0 then 0xa0 else if c = 0xf0 then 0x90 else 128
def high (c : Nat) : Nat := if c = 0xed then 0x9f else if c = 0xf4 then 0x8f else 191

/-- How many bytes the character at the head has; 0: the byte is wrong. -/
def sz (l : List UInt8) : Nat :=
  if at' l 0 < 128 then 1
  else if (decide (0xc2 ≤ at' l 0) && decide (at' l 0 ≤ 0xdf)) && inn l 1 128 191 then 2
  else if !inn l 1 (low (at' l 0)) (high (at' l 0)) || !inn l 2 128 191 then 0
  else if decide (0xe0 ≤ at' l 0) && decide (at' l 0 ≤ 0xef) then 3
  else if (decide (0xf0 ≤ at' l 0) && decide (at' l 0 ≤ 0xf4)) && inn l 3 128 191 then 4
  else 0

def cont (l : List UInt8) (k : Nat) : Bool := decide (k < l.length) && (at' l k / 64 == 2)

def dec (l : List UInt8) : Nat × Nat :=
  let b0 := at' l 0
  if b0 < 0x80 then (b0, 1)
  else if b0 / 32 == 6 && cont l 1 then
    let c := (b0 % 32) * 64 + at' l 1 % 64
    if c ≥ 0x80 then (c, 2) else (Utf8.runeError, 1)
  else if b0 / 16 == 14 && cont l 1 && cont l 2 then
    let c := (b0 % 16) * 4096 + (at' l 1 % 64) * 64 + at' l 2 % 64
    if c ≥ 0x800 && Utf8.valid c then (c, 3) else (Utf8.runeError, 1)
  else if b0 / 8 == 30 && cont l 1 && cont l 2 && cont l 3 then
    let c := (b0 % 8) * 262144 + (at' l 1 % 64) * 4096 + (at' l 2 % 64) * 64 + at' l 3 % 64
    if c ≥ 0x10000 && Utf8.valid c then (c, 4) else (Utf8.runeError, 1)
  else (Utf8.runeError, 1)

theorem get_eq (s : ByteArray) (i k : Nat) : (s.get! (i + k)).toNat = at' (s.data.toList.drop i) k := by
  have h : s.get! (i + k) = (s.data.toList.drop i).getD k 0 := by
    rw [List.getD_eq_getElem?_getD, List.getElem?_drop]
    simp [ByteArray.get!, Array.getElem!_eq_getD]
    rfl
  rw [h]; rfl

theorem cont_eq (s : ByteArray) (i k : Nat) : (decide (i + k < s.size) && ((s.get! (i + k)).toNat / 64 == 2)) = cont (s.data.toList.drop i) k := by
  rw [get_eq, cont]
  congr 1
  have : s.size = s.data.toList.length := by rw [Array.length_toList]; rfl
  rw [Bool.eq_iff_iff]
  simp only [decide_eq_true_iff, List.length_drop]
  omega

theorem decode_eq (s : ByteArray) (i : Nat) : Utf8.decode s i = dec (s.data.toList.drop i) := by
  have c1 := cont_eq s i 1
  have c2 := cont_eq s i 2
  have c3 := cont_eq s i 3
  have g0 := get_eq s i 0
  have g1 := get_eq s i 1
  have g2 := get_eq s i 2
  have g3 := get_eq s i 3
  unfold Utf8.decode dec
  dsimp only
  simp only [c1, c2, c3]
  simp only [g0, g1, g2, g3]

structure Good (c : List UInt8) (r : Nat) : Prop where
  dec : ∀ m, dec (c ++ m) = (r, c.length)
  sz : ∀ m, sz (c ++ m) = c.length
  enc : (Utf8.encode (r : Int)).data.toList = c
  pos : 0 < c.length
  le4 : c.length ≤ 4
  zero : r = 0 ↔ c = [0]
  rle : r ≤ 0x10FFFF
  shape : (∃ a, c = [a] ∧ a.toNat < 128) ∨ ∀ b ∈ c, 128 ≤ b.toNat

theorem u8_ext {a b : UInt8} (h : a.toNat = b.toNat) : a = b := UInt8.toNat_inj.mp h
theorem ofNat_eq (a : UInt8) (n : Nat) (h : n = a.toNat) : UInt8.ofNat n = a := by
  apply u8_ext; rw [h]; simp

theorem valid_of (c : Nat) (h : c < 0xD800 ∨ (0xE000 ≤ c ∧ c ≤ 0x10FFFF)) : Utf8.valid (c : Int) = true := by
  unfold Utf8.valid
  rw [Bool.or_eq_true, Bool.and_eq_true, Bool.and_eq_true, decide_eq_true_iff, decide_eq_true_iff, decide_eq_true_iff, decide_eq_true_iff]
  omega

theorem valid_nat {c : Nat} (h : Utf8.valid (c : Int) = true) : c < 0xD800 ∨ (0xE000 ≤ c ∧ c ≤ 0x10FFFF) := by
  unfold Utf8.valid at h
  rw [Bool.or_eq_true, Bool.and_eq_true, Bool.and_eq_true, decide_eq_true_iff, decide_eq_true_iff, decide_eq_true_iff, decide_eq_true_iff] at h
  omega

theorem enc1 (r : Nat) (c1 : r < 128) : (Utf8.encode (r : Int)).data.toList = [UInt8.ofNat r] := by
  have v := valid_of r (by omega)
  simp [Utf8.encode, v, c1]
theorem enc2 (r : Nat) (c1 : ¬ r < 128) (c2 : r < 2048) : (Utf8.encode (r : Int)).data.toList = [UInt8.ofNat (192 + r / 64), UInt8.ofNat (128 + r % 64)] := by
  have v := valid_of r (by omega)
  simp [Utf8.encode, v, c1, c2]
theorem enc3 (r : Nat) (c2 : ¬ r < 2048) (c3 : r < 65536) (hv : r < 55296 ∨ 57344 ≤ r) : (Utf8.encode (r : Int)).data.toList = [UInt8.ofNat (224 + r / 4096), UInt8.ofNat (128 + r / 64 % 64), UInt8.ofNat (128 + r % 64)] := by
  have v := valid_of r (by omega)
  have c1 : ¬ r < 128 := by omega
  simp [Utf8.encode, v, c1, c2, c3]
theorem enc4 (r : Nat) (c3 : ¬ r < 65536) (c4 : r ≤ 1114111) : (Utf8.encode (r : Int)).data.toList = [UInt8.ofNat (240 + r / 262144), UInt8.ofNat (128 + r / 4096 % 64), UInt8.ofNat (128 + r / 64 % 64), UInt8.ofNat (128 + r % 64)] := by
  have v := valid_of r (by omega)
  have c1 : ¬ r < 128 := by omega
  have c2 : ¬ r < 2048 := by omega
  simp [Utf8.encode, v, c1, c2, c3]

theorem good1 (a : UInt8) (ha : a.toNat < 128) : Good [a] a.toNat where
  dec m := by simp [dec, at', ha]
  sz m := by simp [sz, at', ha]
  enc := by
    rw [enc1 _ ha]
    simp
  pos := by simp
  le4 := by simp
  zero := by
    constructor
    · intro h; congr 1; exact u8_ext h
    · intro h; simp at h; simp [h]
  rle := by omega
  shape := .inl ⟨a, rfl, ha⟩

theorem good2 (a b : UInt8) (ha : 0xc2 ≤ a.toNat) (ha' : a.toNat ≤ 0xdf) (hb : 128 ≤ b.toNat) (hb' : b.toNat ≤ 191) : Good [a, b] ((a.toNat % 32) * 64 + b.toNat % 64) where
  dec m := by
    have h0 : ¬ a.toNat < 128 := by omega
    have h1 : a.toNat / 32 = 6 := by omega
    have h2 : b.toNat / 64 = 2 := by omega
    have h3 : 128 ≤ a.toNat % 32 * 64 + b.toNat % 64 := by omega
    simp [dec, at', cont, h0, h1, h2, h3]
  sz m := by
    have h0 : ¬ a.toNat < 128 := by omega
    simp [sz, at', inn, h0, ha, ha', hb, hb']
  enc := by
    rw [enc2 _ (by omega) (by omega)]
    rw [ofNat_eq a _ (by omega), ofNat_eq b _ (by omega)]
  pos := by simp
  le4 := by simp
  zero := by
    constructor
    · intro h; omega
    · intro h; simp at h
  rle := by omega
  shape := .inr (by intro x hx; simp at hx; rcases hx with rfl | rfl <;> omega)

theorem good3 (a b c : UInt8) (ha : 0xe0 ≤ a.toNat) (ha' : a.toNat ≤ 0xef) (hb : low a.toNat ≤ b.toNat) (hb' : b.toNat ≤ high a.toNat) (hc : 128 ≤ c.toNat) (hc' : c.toNat ≤ 191) : Good [a, b, c] ((a.toNat % 16) * 4096 + (b.toNat % 64) * 64 + c.toNat % 64) := by
  have hL : 128 ≤ b.toNat ∧ b.toNat ≤ 191 ∧ (a.toNat = 0xe0 → 0xa0 ≤ b.toNat) ∧ (a.toNat = 0xed → b.toNat ≤ 0x9f) := by
    unfold low at hb; unfold high at hb'
    split at hb <;> split at hb' <;> (try split at hb) <;> (try split at hb') <;> omega
  obtain ⟨hb1, hb2, hb3, hb4⟩ := hL
  have h0 : ¬ a.toNat < 128 := by omega
  have hlt : a.toNat % 16 * 4096 + b.toNat % 64 * 64 + c.toNat % 64 < 65536 := by omega
  have hge : 0x800 ≤ a.toNat % 16 * 4096 + b.toNat % 64 * 64 + c.toNat % 64 := by omega
  have hv : a.toNat % 16 * 4096 + b.toNat % 64 * 64 + c.toNat % 64 < 0xD800 ∨ 0xE000 ≤ a.toNat % 16 * 4096 + b.toNat % 64 * 64 + c.toNat % 64 := by omega
  have hval : Utf8.valid ((a.toNat % 16 * 4096 + b.toNat % 64 * 64 + c.toNat % 64 : Nat) : Int) = true := valid_of _ (by omega)
  refine ⟨?_, ?_, ?_, by simp, by simp, ?_, by omega, .inr (by intro x hx; simp at hx; rcases hx with rfl | rfl | rfl <;> omega)⟩
  · intro m
    simp only [List.cons_append, List.nil_append]
    have h1 : (a.toNat / 32 == 6) = false := by simp; omega
    have h2 : a.toNat / 16 = 14 := by omega
    have h3 : b.toNat / 64 = 2 := by omega
    have h4 : c.toNat / 64 = 2 := by omega
    have e0 : at' (a :: b :: c :: m) 0 = a.toNat := rfl
    have e1 : at' (a :: b :: c :: m) 1 = b.toNat := rfl
    have e2 : at' (a :: b :: c :: m) 2 = c.toNat := rfl
    have c1 : cont (a :: b :: c :: m) 1 = true := by simp [cont, e1, h3]
    have c2 : cont (a :: b :: c :: m) 2 = true := by simp [cont, e2, h4]
    unfold dec
    simp only [e0, e1, e2, h0, h1, h2, c1, c2, if_false, Bool.false_and, hval]
    simp [hge]
  · intro m
    simp only [List.cons_append, List.nil_append]
    have e0 : at' (a :: b :: c :: m) 0 = a.toNat := rfl
    have i1 : inn (a :: b :: c :: m) 1 128 191 = true := by simp [inn, at', hb1, hb2]
    have i2 : inn (a :: b :: c :: m) 1 (low a.toNat) (high a.toNat) = true := by simp [inn, at', hb, hb']
    have i3 : inn (a :: b :: c :: m) 2 128 191 = true := by simp [inn, at', hc, hc']
    have n1 : ¬ a.toNat ≤ 0xdf := by omega
    unfold sz
    simp [e0, i1, i2, i3, h0, ha, ha', n1]
  · rw [enc3 _ (by omega) (by omega) hv]
    rw [ofNat_eq a _ (by omega), ofNat_eq b _ (by omega), ofNat_eq c _ (by omega)]
  · constructor
    · intro h; omega
    · intro h; simp at h

theorem good4 (a b c d : UInt8) (ha : 0xf0 ≤ a.toNat) (ha' : a.toNat ≤ 0xf4) (hb : low a.toNat ≤ b.toNat) (hb' : b.toNat ≤ high a.toNat) (hc : 128 ≤ c.toNat) (hc' : c.toNat ≤ 191) (hd : 128 ≤ d.toNat) (hd' : d.toNat ≤ 191) :
    Good [a, b, c, d] ((a.toNat % 8) * 262144 + (b.toNat % 64) * 4096 + (c.toNat % 64) * 64 + d.toNat % 64) := by
  have hL : 128 ≤ b.toNat ∧ b.toNat ≤ 191 ∧ (a.toNat = 0xf0 → 0x90 ≤ b.toNat) ∧ (a.toNat = 0xf4 → b.toNat ≤ 0x8f) := by
    unfold low at hb; unfold high at hb'
    split at hb <;> split at hb' <;> (try split at hb) <;> (try split at hb') <;> omega
  obtain ⟨hb1, hb2, hb3, hb4⟩ := hL
  have h0 : ¬ a.toNat < 128 := by omega
  have hlt : a.toNat % 8 * 262144 + b.toNat % 64 * 4096 + c.toNat % 64 * 64 + d.toNat % 64 ≤ 0x10FFFF := by omega
  have hge : 0x10000 ≤ a.toNat % 8 * 262144 + b.toNat % 64 * 4096 + c.toNat % 64 * 64 + d.toNat % 64 := by omega
  have hval : Utf8.valid ((a.toNat % 8 * 262144 + b.toNat % 64 * 4096 + c.toNat % 64 * 64 + d.toNat % 64 : Nat) : Int) = true := valid_of _ (by omega)
  refine ⟨?_, ?_, ?_, by simp, by simp, ?_, by omega, .inr (by intro x hx; simp at hx; rcases hx with rfl | rfl | rfl | rfl <;> omega)⟩
  · intro m
    simp only [List.cons_append, List.nil_append]
    have h1 : (a.toNat / 32 == 6) = false := by simp; omega
    have h1' : (a.toNat / 16 == 14) = false := by simp; omega
    have h2 : a.toNat / 8 = 30 := by omega
    have h3 : b.toNat / 64 = 2 := by omega
    have h4 : c.toNat / 64 = 2 := by omega
    have h5 : d.toNat / 64 = 2 := by omega
    have e0 : at' (a :: b :: c :: d :: m) 0 = a.toNat := rfl
    have e1 : at' (a :: b :: c :: d :: m) 1 = b.toNat := rfl
    have e2 : at' (a :: b :: c :: d :: m) 2 = c.toNat := rfl
    have e3 : at' (a :: b :: c :: d :: m) 3 = d.toNat := rfl
    have c1 : cont (a :: b :: c :: d :: m) 1 = true := by simp [cont, e1, h3]
    have c2 : cont (a :: b :: c :: d :: m) 2 = true := by simp [cont, e2, h4]
    have c3 : cont (a :: b :: c :: d :: m) 3 = true := by simp [cont, e3, h5]
    unfold dec
    simp only [e0, e1, e2, e3, h0, h1, h1', h2, c1, c2, c3, if_false, Bool.false_and, hval]
    simp [hge]
  · intro m
    simp only [List.cons_append, List.nil_append]
    have e0 : at' (a :: b :: c :: d :: m) 0 = a.toNat := rfl
    have i1 : inn (a :: b :: c :: d :: m) 1 128 191 = true := by simp [inn, at', hb1, hb2]
    have i2 : inn (a :: b :: c :: d :: m) 1 (low a.toNat) (high a.toNat) = true := by simp [inn, at', hb, hb']
    have i3 : inn (a :: b :: c :: d :: m) 2 128 191 = true := by simp [inn, at', hc, hc']
    have i4 : inn (a :: b :: c :: d :: m) 3 128 191 = true := by simp [inn, at', hd, hd']
    have n1 : ¬ a.toNat ≤ 0xdf := by omega
    have n2 : ¬ a.toNat ≤ 0xef := by omega
    unfold sz
    simp [e0, i1, i2, i3, i4, h0, ha, ha', n1, n2]
  · rw [enc4 _ (by omega) (by omega)]
    rw [ofNat_eq a _ (by omega), ofNat_eq b _ (by omega), ofNat_eq c _ (by omega), ofNat_eq d _ (by omega)]
  · constructor
    · intro h; omega
    · intro h; simp at h

theorem F_good : Good [0xEF, 0xBF, 0xBD] 0xFFFD := by
  have h := good3 0xEF 0xBF 0xBD (by decide) (by decide) (by decide) (by decide) (by decide) (by decide)
  exact h

/-- What stands at the head: a character, or a wrong byte. -/
theorem step (l : List UInt8) (h : l ≠ []) : (∃ c r t, l = c ++ t ∧ Good c r) ∨ (∃ a t, l = a :: t ∧ dec l = (0xFFFD, 1) ∧ sz l = 0) := by
  obtain ⟨a, t, rfl⟩ := List.exists_cons_of_ne_nil h
  have ha256 := a.toNat_lt
  by_cases h1 : a.toNat < 128
  · exact .inl ⟨[a], _, t, rfl, good1 a h1⟩
  have e0 : at' (a :: t) 0 = a.toNat := rfl
  match t with
  | [] =>
    refine .inr ⟨a, [], rfl, ?_, ?_⟩
    · simp [dec, at', cont, h1, Utf8.runeError]
    · simp [sz, at', inn, h1]
  | b :: t =>
  have e1 : at' (a :: b :: t) 1 = b.toNat := rfl
  have e0 : at' (a :: b :: t) 0 = a.toNat := rfl
  by_cases h2 : (0xc2 ≤ a.toNat ∧ a.toNat ≤ 0xdf) ∧ (128 ≤ b.toNat ∧ b.toNat ≤ 191)
  · exact .inl ⟨[a, b], _, t, rfl, good2 a b h2.1.1 h2.1.2 h2.2.1 h2.2.2⟩
  have i1 : inn (a :: b :: t) 1 128 191 = (decide (128 ≤ b.toNat) && decide (b.toNat ≤ 191)) := by simp [inn, e1]
  have c1 : cont (a :: b :: t) 1 = (b.toNat / 64 == 2) := by simp [cont, e1]
  have i1' : inn (a :: b :: t) 1 (low a.toNat) (high a.toNat) = (decide (low a.toNat ≤ b.toNat) && decide (b.toNat ≤ high a.toNat)) := by simp [inn, e1]
  have n1 : ¬ ((decide (0xc2 ≤ a.toNat) && decide (a.toNat ≤ 0xdf)) && inn (a :: b :: t) 1 128 191) = true := by
    rw [i1]; simp; omega
  have hlo : 128 ≤ low a.toNat := by unfold low; split <;> (try split) <;> omega
  have hhi : high a.toNat ≤ 191 := by unfold high; split <;> (try split) <;> omega
  -- the part of 'dec' of two bytes
  have d2 : (a.toNat / 32 == 6 && cont (a :: b :: t) 1) = true → ¬ (a.toNat % 32) * 64 + b.toNat % 64 ≥ 128 := by
    rw [c1]; simp; omega
  match t with
  | [] =>
    refine .inr ⟨a, [b], rfl, ?_, ?_⟩
    · have c2 : cont [a, b] 2 = false := by simp [cont]
      have c3 : cont [a, b] 3 = false := by simp [cont]
      unfold dec
      simp only [e0, e1, h1, c2, Utf8.runeError, if_false, Bool.and_false, Bool.false_and]
      by_cases hd : (a.toNat / 32 == 6 && cont [a, b] 1) = true
      · rw [if_pos hd, if_neg (d2 hd)]
      · rw [if_neg hd]; simp
    · have i2 : inn [a, b] 2 128 191 = false := by simp [inn]
      unfold sz
      rw [e0, if_neg h1, if_neg n1, i2]; simp
  | c :: t =>
  have e2 : at' (a :: b :: c :: t) 2 = c.toNat := rfl
  have e1 : at' (a :: b :: c :: t) 1 = b.toNat := rfl
  have e0 : at' (a :: b :: c :: t) 0 = a.toNat := rfl
  have i2 : inn (a :: b :: c :: t) 2 128 191 = (decide (128 ≤ c.toNat) && decide (c.toNat ≤ 191)) := by simp [inn, e2]
  have c2 : cont (a :: b :: c :: t) 2 = (c.toNat / 64 == 2) := by simp [cont, e2]
  by_cases h3 : (0xe0 ≤ a.toNat ∧ a.toNat ≤ 0xef) ∧ (low a.toNat ≤ b.toNat ∧ b.toNat ≤ high a.toNat) ∧ (128 ≤ c.toNat ∧ c.toNat ≤ 191)
  · exact .inl ⟨[a, b, c], _, t, rfl, good3 a b c h3.1.1 h3.1.2 h3.2.1.1 h3.2.1.2 h3.2.2.1 h3.2.2.2⟩
  have d3 : (a.toNat / 16 == 14 && cont (a :: b :: c :: t) 1 && cont (a :: b :: c :: t) 2) = true → ¬ (decide ((a.toNat % 16) * 4096 + (b.toNat % 64) * 64 + c.toNat % 64 ≥ 0x800) && Utf8.valid (((a.toNat % 16) * 4096 + (b.toNat % 64) * 64 + c.toNat % 64 : Nat) : Int)) = true := by
    rw [c1, c2]
    simp only [Bool.and_eq_true, beq_iff_eq, decide_eq_true_eq]
    intro ⟨⟨x1, x2⟩, x3⟩ ⟨y1, y2⟩
    have := valid_nat y2
    unfold low high at h3
    by_cases q1 : a.toNat = 0xe0
    · rw [if_pos q1, if_neg (by omega), if_neg (by omega)] at h3; omega
    · by_cases q2 : a.toNat = 0xed
      · rw [if_neg q1, if_neg (by omega), if_pos q2] at h3; omega
      · rw [if_neg q1, if_neg (by omega), if_neg q2, if_neg (by omega)] at h3; omega
  have n3 : ¬ (!inn (a :: b :: c :: t) 1 (low a.toNat) (high a.toNat) || !inn (a :: b :: c :: t) 2 128 191) = true → ¬ (decide (0xe0 ≤ a.toNat) && decide (a.toNat ≤ 0xef)) = true := by
    rw [i1', i2]
    simp only [Bool.or_eq_true, Bool.and_eq_true, Bool.not_eq_true', Bool.and_eq_false_iff, decide_eq_true_eq, decide_eq_false_iff_not]
    omega
  have s3 : (decide (0xf0 ≤ a.toNat) && decide (a.toNat ≤ 0xf4) && inn (a :: b :: c :: t) 3 128 191) = false → sz (a :: b :: c :: t) = 0 := by
    intro q
    unfold sz
    rw [e0, if_neg h1, if_neg n1, q]
    by_cases x : (!inn (a :: b :: c :: t) 1 (low a.toNat) (high a.toNat) || !inn (a :: b :: c :: t) 2 128 191) = true
    · rw [if_pos x]
    · rw [if_neg x, if_neg (n3 x)]; simp
  have dd : ∀ z, (if (a.toNat / 8 == 30 && cont (a :: b :: c :: t) 1 && cont (a :: b :: c :: t) 2 && cont (a :: b :: c :: t) 3) = true then z else (0xFFFD, 1)) = (0xFFFD, 1) →
      (z = (if (decide ((a.toNat % 8) * 262144 + (b.toNat % 64) * 4096 + (c.toNat % 64) * 64 + at' (a :: b :: c :: t) 3 % 64 ≥ 0x10000) && Utf8.valid (((a.toNat % 8) * 262144 + (b.toNat % 64) * 4096 + (c.toNat % 64) * 64 + at' (a :: b :: c :: t) 3 % 64 : Nat) : Int)) = true then ((a.toNat % 8) * 262144 + (b.toNat % 64) * 4096 + (c.toNat % 64) * 64 + at' (a :: b :: c :: t) 3 % 64, 4) else (0xFFFD, 1))) → dec (a :: b :: c :: t) = (0xFFFD, 1) := by
    intro z hz hz'
    unfold dec
    simp only [e0, e1, e2, h1, Utf8.runeError, if_false]
    by_cases hd : (a.toNat / 32 == 6 && cont (a :: b :: c :: t) 1) = true
    · rw [if_pos hd, if_neg (d2 hd)]
    · rw [if_neg hd]
      by_cases hd3 : (a.toNat / 16 == 14 && cont (a :: b :: c :: t) 1 && cont (a :: b :: c :: t) 2) = true
      · rw [if_pos hd3, if_neg (d3 hd3)]
      · rw [if_neg hd3, ← hz', hz]
  match t with
  | [] =>
    have c3 : cont [a, b, c] 3 = false := by simp [cont]
    refine .inr ⟨a, [b, c], rfl, dd _ ?_ rfl, s3 (by simp [inn])⟩
    rw [c3]; simp
  | d :: t =>
  have e3 : at' (a :: b :: c :: d :: t) 3 = d.toNat := rfl
  have i3 : inn (a :: b :: c :: d :: t) 3 128 191 = (decide (128 ≤ d.toNat) && decide (d.toNat ≤ 191)) := by simp [inn, e3]
  have c3 : cont (a :: b :: c :: d :: t) 3 = (d.toNat / 64 == 2) := by simp [cont, e3]
  by_cases h4 : (0xf0 ≤ a.toNat ∧ a.toNat ≤ 0xf4) ∧ (low a.toNat ≤ b.toNat ∧ b.toNat ≤ high a.toNat) ∧ (128 ≤ c.toNat ∧ c.toNat ≤ 191) ∧ (128 ≤ d.toNat ∧ d.toNat ≤ 191)
  · exact .inl ⟨[a, b, c, d], _, t, rfl, good4 a b c d h4.1.1 h4.1.2 h4.2.1.1 h4.2.1.2 h4.2.2.1.1 h4.2.2.1.2 h4.2.2.2.1 h4.2.2.2.2⟩
  refine .inr ⟨a, b :: c :: d :: t, rfl, dd _ ?_ rfl, ?_⟩
  · by_cases hd4 : (a.toNat / 8 == 30 && cont (a :: b :: c :: d :: t) 1 && cont (a :: b :: c :: d :: t) 2 && cont (a :: b :: c :: d :: t) 3) = true
    · rw [if_pos hd4, if_neg ?_]
      rw [c1, c2, c3] at hd4
      rw [e3]
      simp only [Bool.and_eq_true, beq_iff_eq, decide_eq_true_eq] at hd4 ⊢
      obtain ⟨⟨⟨x1, x2⟩, x3⟩, x4⟩ := hd4
      intro ⟨y1, y2⟩
      have := valid_nat y2
      unfold low high at h4
      by_cases q1 : a.toNat = 0xf0
      · rw [if_neg (by omega), if_pos q1, if_neg (by omega), if_neg (by omega)] at h4; omega
      · by_cases q2 : a.toNat = 0xf4
        · rw [if_neg (by omega), if_neg q1, if_neg (by omega), if_pos q2] at h4; omega
        · rw [if_neg (by omega), if_neg q1, if_neg (by omega), if_neg q2] at h4; omega
    · rw [if_neg hd4]
  · by_cases x : (!inn (a :: b :: c :: d :: t) 1 (low a.toNat) (high a.toNat) || !inn (a :: b :: c :: d :: t) 2 128 191) = true
    · unfold sz
      rw [e0, if_neg h1, if_neg n1, if_pos x]
    · apply s3
      rw [i3]
      rw [i1', i2] at x
      simp only [Bool.or_eq_true, Bool.not_eq_true', Bool.and_eq_false_iff, decide_eq_false_iff_not] at x ⊢
      omega

end Go.Proofs.YtoijeljjehjfjaaDoor.Ch

namespace Go.Proofs.YtoijeljjehjfjaaDoor.Ch
set_option linter.unusedSimpArgs false
set_option linter.unusedVariables false

theorem ind {P : List UInt8 → Prop} (h0 : P []) (hg : ∀ c r t, Good c r → P t → P (c ++ t)) (hb : ∀ a t, dec (a :: t) = (0xFFFD, 1) → sz (a :: t) = 0 → P t → P (a :: t)) : ∀ l, P l := by
  have key : ∀ n l, l.length ≤ n → P l := by
    intro n
    induction n with
    | zero => intro l hl; have : l = [] := List.eq_nil_of_length_eq_zero (by omega); subst this; exact h0
    | succ n ih =>
      intro l hl
      by_cases hn : l = []
      · subst hn; exact h0
      · rcases step l hn with ⟨c, r, t, rfl, G⟩ | ⟨a, t, rfl, hd, hs⟩
        · have := G.pos; simp at hl; exact hg c r t G (ih t (by omega))
        · simp at hl; exact hb a t hd hs (ih t (by omega))
  exact fun l => key l.length l (Nat.le_refl _)

def F : List UInt8 := [0xEF, 0xBF, 0xBD]

/-- The division: of each part its rune and its bytes. -/
def pieces : Nat → List UInt8 → List (Nat × List UInt8)
  | 0, _ => []
  | _ + 1, [] => []
  | n + 1, a :: t => ((dec (a :: t)).1, (a :: t).take (dec (a :: t)).2) :: pieces n ((a :: t).drop (dec (a :: t)).2)

def pcs (l : List UInt8) : List (Nat × List UInt8) := pieces l.length l

theorem dec_pos (l : List UInt8) (h : l ≠ []) : 1 ≤ (dec l).2 := by
  rcases step l h with ⟨c, r, t, rfl, G⟩ | ⟨a, t, rfl, hd, hs⟩
  · rw [G.dec]; exact G.pos
  · rw [hd]; exact Nat.le_refl _

theorem pieces_more : ∀ n m l, l.length ≤ n → n ≤ m → pieces m l = pieces n l := by
  intro n
  induction n with
  | zero =>
    intro m l hl _
    have : l = [] := List.eq_nil_of_length_eq_zero (by omega)
    subst this
    cases m <;> rfl
  | succ n ih =>
    intro m l hl hm
    obtain ⟨m, rfl⟩ : ∃ k, m = k + 1 := ⟨m - 1, by omega⟩
    cases l with
    | nil => rfl
    | cons a t =>
      have := dec_pos (a :: t) (by simp)
      simp only [pieces]
      rw [ih m _ (by simp only [List.length_drop]; simp at hl ⊢; omega) (by omega)]

theorem pcs_step (l : List UInt8) (h : l ≠ []) : pcs l = ((dec l).1, l.take (dec l).2) :: pcs (l.drop (dec l).2) := by
  obtain ⟨a, t, rfl⟩ := List.exists_cons_of_ne_nil h
  have := dec_pos (a :: t) (by simp)
  show pieces (t.length + 1) (a :: t) = _
  rw [pieces]
  congr 1
  exact pieces_more _ _ _ (Nat.le_refl _) (by simp only [List.length_drop, List.length_cons]; omega)

theorem pcs_good {c : List UInt8} {r : Nat} (G : Good c r) (t : List UInt8) : pcs (c ++ t) = (r, c) :: pcs t := by
  have hne : c ++ t ≠ [] := by have := G.pos; intro e; simp at e; simp [e.1] at this
  rw [pcs_step _ hne, G.dec]
  simp

theorem pcs_bad {a : UInt8} {t : List UInt8} (hd : dec (a :: t) = (0xFFFD, 1)) : pcs (a :: t) = (0xFFFD, [a]) :: pcs t := by
  rw [pcs_step _ (by simp), hd]
  simp

/-- Decoded. -/
def encR (r : Nat) : List UInt8 := if r = 0 then F else (Utf8.encode (r : Int)).data.toList
theorem encR_zero : encR 0 = F := if_pos rfl
theorem encR_pos {r : Nat} (h : r ≠ 0) : encR r = (Utf8.encode (r : Int)).data.toList := if_neg h
theorem encR_good {c : List UInt8} {r : Nat} (G : Good c r) : encR r = if r = 0 then F else c := by
  by_cases h : r = 0
  · rw [if_pos h, h, encR_zero]
  · rw [if_neg h, encR_pos h, G.enc]
theorem encR_bad : encR 0xFFFD = F := by
  rw [encR_pos (by decide), F_good.enc]; rfl
def encP (p : Nat × List UInt8) : List UInt8 := encR p.1
def dL (l : List UInt8) : List UInt8 := (pcs l).flatMap encP

theorem dL_nil : dL [] = [] := rfl
theorem dL_step (l : List UInt8) (h : l ≠ []) : dL l = encR (dec l).1 ++ dL (l.drop (dec l).2) := by
  unfold dL; rw [pcs_step l h, List.flatMap_cons]; rfl
theorem dL_good {c : List UInt8} {r : Nat} (G : Good c r) (t : List UInt8) : dL (c ++ t) = (if r = 0 then F else c) ++ dL t := by
  unfold dL
  rw [pcs_good G, List.flatMap_cons, encP, encR_good G]
theorem dL_bad {a : UInt8} {t : List UInt8} (hd : dec (a :: t) = (0xFFFD, 1)) : dL (a :: t) = F ++ dL t := by
  unfold dL
  rw [pcs_bad hd, List.flatMap_cons, encP, encR_bad]
/-- Right. -/
def okP (p : Nat × List UInt8) : Bool := !(p.1 == 0xFFFD) || p.2 == F
def rL (l : List UInt8) : Bool := (pcs l).all okP
theorem Good.fffd {c : List UInt8} (G : Good c 0xFFFD) : c = F := by rw [← G.enc]; exact F_good.enc
theorem okP_good {c : List UInt8} {r : Nat} (G : Good c r) : okP (r, c) = true := by
  unfold okP
  by_cases h : r = 0xFFFD
  · subst h; rw [G.fffd]; rfl
  · have : (r == 0xFFFD) = false := by simpa using h
    simp only [this]; rfl
theorem rL_good {c : List UInt8} {r : Nat} (G : Good c r) (t : List UInt8) : rL (c ++ t) = rL t := by
  unfold rL
  rw [pcs_good G, List.all_cons, okP_good G, Bool.true_and]
theorem rL_bad {a : UInt8} {t : List UInt8} (hd : dec (a :: t) = (0xFFFD, 1)) : rL (a :: t) = false := by
  unfold rL
  rw [pcs_bad hd, List.all_cons]
  simp [okP, F]

/-- How many. -/
def cL (l : List UInt8) : Nat := (pcs l).length
theorem cL_nil : cL [] = 0 := rfl
theorem cL_good {c : List UInt8} {r : Nat} (G : Good c r) (t : List UInt8) : cL (c ++ t) = 1 + cL t := by
  unfold cL; rw [pcs_good G, List.length_cons]; omega
/-- One end of lines: p: the byte ahead was a 13. -/
def ln : Bool → List UInt8 → List UInt8
  | _, [] => []
  | p, c :: t => if c = 13 then 10 :: ln true t else if c = 10 ∧ p = true then ln false t else c :: ln false t

theorem ln_13 (p : Bool) (t : List UInt8) : ln p (13 :: t) = 10 :: ln true t := by simp [ln]
theorem ln_10 (t : List UInt8) : ln true (10 :: t) = ln false t := by simp [ln]
theorem ln_other (p : Bool) (c : UInt8) (t : List UInt8) (h : c ≠ 13) (h' : ¬ (c = 10 ∧ p = true)) : ln p (c :: t) = c :: ln false t := by simp only [ln, h, h', if_false]
/-! ### What holds -/

theorem len_dL (l : List UInt8) : (dL l).length ≤ 3 * l.length := by
  refine ind (P := fun l => (dL l).length ≤ 3 * l.length) (by simp [dL_nil]) ?_ ?_ l
  · intro c r t G ih
    have := G.pos
    rw [dL_good G, List.length_append, List.length_append]
    by_cases h : r = 0
    · rw [if_pos h]; simp only [F, List.length_cons, List.length_nil]; omega
    · rw [if_neg h]; omega
  · intro a t hd _ ih
    rw [dL_bad hd, List.length_append]; simp only [F, List.length_cons, List.length_nil]; omega

theorem ln_len (p : Bool) (l : List UInt8) : (ln p l).length ≤ l.length := by
  induction l generalizing p with
  | nil => simp [ln]
  | cons c t ih =>
    have h1 := ih true; have h2 := ih false
    simp only [ln]
    split
    · simp; omega
    · split
      · simp; omega
      · simp; omega

theorem ln_id (l : List UInt8) (h : (13 : UInt8) ∉ l) : ln false l = l := by
  induction l with
  | nil => rfl
  | cons c t ih =>
    simp at h
    rw [ln_other _ _ _ (Ne.symm h.1) (by simp), ih h.2]

theorem dL_id (l : List UInt8) : rL l = true → (0 : UInt8) ∉ l → dL l = l := by
  refine ind (P := fun l => rL l = true → (0 : UInt8) ∉ l → dL l = l) (fun _ _ => rfl) ?_ ?_ l
  · intro c r t G ih h hz
    rw [rL_good G] at h
    simp at hz
    rw [dL_good G, ih h hz.2, if_neg]
    intro e
    rw [G.zero.1 e] at hz
    simp at hz
  · intro a t hd _ ih h
    rw [rL_bad hd] at h; exact absurd h (by simp)

theorem joins (a b : List UInt8) : rL a = true → rL (a ++ b) = rL b ∧ dL (a ++ b) = dL a ++ dL b ∧ cL (a ++ b) = cL a + cL b := by
  refine ind (P := fun a => rL a = true → rL (a ++ b) = rL b ∧ dL (a ++ b) = dL a ++ dL b ∧ cL (a ++ b) = cL a + cL b) (fun _ => ⟨rfl, by simp [dL_nil], by simp [cL_nil]⟩) ?_ ?_ a
  · intro c r t G ih h
    rw [rL_good G] at h
    obtain ⟨h1, h2, h3⟩ := ih h
    rw [List.append_assoc]
    refine ⟨by rw [rL_good G, h1], by rw [dL_good G, dL_good G, h2, List.append_assoc], by rw [cL_good G, cL_good G, h3]; omega⟩
  · intro a t hd _ ih h
    rw [rL_bad hd] at h; exact absurd h (by simp)

/-- Bytes below 128, but 0 and 13. -/
def plain (l : List UInt8) : Prop := ∀ x ∈ l, x.toNat < 128 ∧ x ≠ 0 ∧ x ≠ 13

theorem plain_rL (l : List UInt8) (h : plain l) : rL l = true := by
  induction l with
  | nil => rfl
  | cons a t ih => rw [show a :: t = [a] ++ t from rfl, rL_good (good1 a (h a (by simp)).1), ih (fun x hx => h x (by simp [hx]))]
theorem plain_dL (l : List UInt8) (h : plain l) : dL l = l := dL_id l (plain_rL l h) (fun e => (h 0 e).2.1 rfl)
theorem plain_ln (l : List UInt8) (h : plain l) : ln false l = l := ln_id l (fun e => (h 13 e).2.2 rfl)

end Go.Proofs.YtoijeljjehjfjaaDoor.Ch

namespace Go.Proofs.YtoijeljjehjfjaaDoor.Ch
set_option linter.unusedSimpArgs false
set_option linter.unusedVariables false
open Go.RowKit
abbrev L (s : ByteArray) : List UInt8 := s.data.toList
theorem size_L (s : ByteArray) : (L s).length = s.size := by rw [Array.length_toList]; rfl
theorem drop_ne (s : ByteArray) (k : Nat) (h : k < s.size) : (L s).drop k ≠ [] := by
  intro e
  have := congrArg List.length e
  rw [List.length_drop, size_L] at this
  simp at this; omega
theorem drop_nil (s : ByteArray) (k : Nat) (h : ¬ k < s.size) : (L s).drop k = [] := List.drop_eq_nil_of_le (by rw [size_L]; omega)

theorem ret_int {k : IntKind} {a b : Int} (h : a = b) : Ending.returned (.int k a) = .returned (.int k b) := by rw [h]
theorem ret_bool {a b : Bool} (h : a = b) : Ending.returned (.bool a) = .returned (.bool b) := by rw [h]
theorem ret_str {a b : ByteArray} (h : a = b) : Ending.returned (.string a) = .returned (.string b) := by rw [h]

theorem below_iter (w : World) (s : ByteArray) (p : Nat) : Below w.heap.size w (w.iter s p) :=
  (Below.refl _ _).alloc (Nat.le_refl _) _

/-- A string of these bytes. -/
def B (l : List UInt8) : ByteArray := ⟨l.toArray⟩
theorem L_B (l : List UInt8) : L (B l) = l := by simp [B]
theorem toList_B (l : List UInt8) : (B l).toList = l := by unfold B; exact ByteArray.toList_mk l
theorem size_B (l : List UInt8) : (B l).size = l.length := by rw [← size_L, L_B]
theorem B_of {s : ByteArray} {l : List UInt8} (h : L s = l) : s = B l := WideShapes.bytes_inj (h.trans (L_B l).symm)

theorem L_extract (s : ByteArray) (a b : Nat) : L (s.extract a b) = ((L s).drop a).take (b - a) := Lib.extract_data s a b
theorem L_end (s : ByteArray) (a : Nat) : L (s.extract a s.size) = (L s).drop a := by
  rw [L_extract, List.take_of_length_le]
  rw [List.length_drop, size_L]
  exact Nat.le_refl _
theorem size_extract (s : ByteArray) (a b : Nat) : (s.extract a b).size ≤ s.size := by
  rw [← size_L, ← size_L, L_extract, List.length_take, List.length_drop]; omega

end Go.Proofs.YtoijeljjehjfjaaDoor.Ch

namespace Go.Proofs.YtoijeljjehjfjaaDoor.Ch
set_option maxRecDepth 100000
set_option linter.unusedSimpArgs false
set_option linter.unusedVariables false
open Go.RowKit
def bc (b : UInt8) : Value := .int .u8 b.toNat
/-- v is a slice of bytes of the call's own that holds l. -/
def Own (N : Nat) (w : World) (v : Value) (l : List UInt8) : Prop := w.ownsRow N 5 1 v l.length (l.map bc)

theorem info_u8 : (Tryd.prog.info? 5).map (fun i => (i.zero, i.size, i.bytes)) = some (some (.int .u8 0), 1, 1) := by kernel_rfl

theorem Own.iterAt {N : Nat} {w : World} {v : Value} {l : List UInt8} (h : Own N w v l) {k : Nat} {s : ByteArray} {pos : Nat} (hk : w.heap[k]? = some (.stringIter s pos)) (pos' : Nat) : Own N (w.iterAt k s pos') v l := by
  refine ⟨h.1, ?_⟩
  rcases h.2 with hn | ⟨g, cap, cur, hv, hb, hg, rest⟩
  · exact .inl hn
  · have hkg : g ≠ k := by
      intro e1
      rw [e1, hk] at hg
      cases hg
    exact .inr ⟨g, cap, cur, hv, hb, (Lib.iterAt_other w k g s pos' hkg).trans hg, rest⟩

theorem Own.iterKept {N : Nat} {w w' : World} {v : Value} {l : List UInt8} (h : Own N w v l) (hg : w.grownBy w' v.ownBlock) {k : Nat} {s : ByteArray} {pos : Nat} (hk : w.heap[k]? = some (.stringIter s pos)) : w'.heap[k]? = some (.stringIter s pos) := by
  have hlt : k < w.heap.size := (Array.getElem?_eq_some_iff.1 hk).1
  rw [hg.block k hlt, hk]
  intro e
  rcases h.2 with ⟨hv, _⟩ | ⟨g, cap, cur, hv, hb, hgg, rest⟩
  · rw [hv] at e; simp [Value.ownBlock] at e
  · rw [hv] at e; simp [Value.ownBlock] at e
    rw [← e, hk] at hgg; cases hgg

theorem Own.below {N : Nat} {w0 w w' : World} {v : Value} {l : List UInt8} (h : Own N w v l) (hg : w.grownBy w' v.ownBlock) (hb : Below N w0 w) (hN : N ≤ w.heap.size) : Below N w0 w' :=
  hb.grown hg hN fun k hk => (h.lt k hk).1

theorem Own.string {N : Nat} {w : World} {v : Value} {l : List UInt8} (h : Own N w v l) : (convert 44 9 v).run Tryd.prog w = .ok (.string (B l)) w := by
  rcases h.2 with ⟨hv, hl⟩ | ⟨g, cap, cur, hv, hb, hgg, rest⟩
  · have : l = [] := List.eq_nil_of_length_eq_zero hl
    subst this hv
    rw [run_convert_bytes_string w _ _ _ none 0 0 Tryd.underlying44 Tryd.underlying5 Tryd.underlying9]
    rfl
  · subst hv
    exact run_convert_bytes_back w _ _ _ ⟨g, 0, none⟩ cap l Tryd.underlying44 Tryd.underlying5 Tryd.underlying9 fun j hj => World.ownsRow.cells h rfl j _ (by simp [bc, hj])

theorem strCells_L (s : ByteArray) : Lib.strCells s = (L s).map bc := rfl

theorem Own.appended {N : Nat} {w : World} {v : Value} {l m : List UInt8} {n : Nat} (h : w.ownsRow N 5 1 v n (l.map bc ++ m.map bc)) (hn : n = l.length + m.length) : Own N w v (l ++ m) := by
  unfold Own
  rw [List.map_append, List.length_append, ← hn]
  exact h

theorem L_def (s : ByteArray) : L s = s.data.toList := rfl
theorem enc_F : L (Utf8.encode 65533) = F :=
  (L_def _).trans ((congrArg (fun z : Int => (Utf8.encode z).data.toList) (show (65533 : Int) = ((0xFFFD : Nat) : Int) from rfl)).trans F_good.enc)
theorem enc_r (r : Nat) (h : r ≠ 0) : L (Utf8.encode r) = encR r := (L_def _).trans (encR_pos h).symm

set_option maxHeartbeats 1000000 in
theorem decode_any (s : ByteArray) (w : World) (hs : s.size ≤ 140737488355328) (hd : (dL (L s)).length ≤ 140737488355328) :
    Calls Tryd.prog 72 #[.string s] w fun e w' => e = .returned (.string (B (dL (L s)))) ∧ Below w.heap.size w w' := by
  obtain ⟨i0, hi, hz0, hz1, hz2⟩ := info_parts info_u8
  go_enter Tryd.func72, Tryd.ntmps72
  go_wp2_with (at_make; refine wpList_make_own _ rfl (.const (.int .i64 0)) (.tmp 7) 44 rfl w.heap.size 5 i0 (.int .u8 0) 1 Tryd.underlying44 hi hz0 hz1 .i64 .i64 _ s.size rfl rfl rfl (by rw [hz2]; omega) (by unfold maxLen; omega) (Nat.le_refl _) ?_; intro w1 hown hgrow)
  have hk0 : (w1.iter s 0).heap[w1.heap.size]? = some (.stringIter s 0) := World.iter_heap w1 s 0
  have hb0 : Below w.heap.size w (w1.iter s 0) := ((Below.refl w.heap.size w).grown hgrow (Nat.le_refl _) (by simp)).alloc hgrow.size _
  have ho0 : Own w.heap.size (w1.iter s 0) (.slice (some ⟨w.heap.size, 0, none⟩) 0 s.size) [] := World.ownsRow.alloc hown _
  have hsz1 := hgrow.size
  clear hown hgrow
  have HK0 := Lib.hid hk0; clear hk0
  go_loopw [3, 5] (fun v _ wr => ∃ (pos : Nat) (acc : List UInt8), wr.heap[w1.heap.size]? = some (.stringIter s pos) ∧ Own w.heap.size wr v acc ∧ acc ++ dL ((L s).drop pos) = dL (L s) ∧ Below w.heap.size w wr) (fun _ _ wr => s.size - wr.iterPos w1.heap.size)
  case atStart => exact ⟨0, [], HK0.out, ho0, by simp, hb0⟩
  case round =>
    clear ho0 hb0 HK0
    obtain ⟨pos, acc, hk, hown, hc, hbel⟩ := hrel
    have hpos : wr.iterPos w1.heap.size = pos := iterPos_of hk
    have HC := Lib.hid hc; clear hc
    have HP := Lib.hid hpos; clear hpos
    by_cases hp : pos < s.size
    · have hnx : ∀ ty, (Instr.next (.pointer (some ⟨w1.heap.size, 0, none⟩)) true ty).run Tryd.prog wr = _ := fun ty => Lib.run_next_any_at wr _ s pos ty hk hp
      have hdp := dec_pos _ (drop_ne s pos hp)
      have hst := dL_step _ (drop_ne s pos hp)
      rw [List.drop_drop] at hst
      rw [← decode_eq] at hst hdp
      have hk' := Lib.iterAt_heap wr w1.heap.size s pos (pos + (Utf8.decode s pos).2) hk
      have hown' := hown.iterAt hk (pos + (Utf8.decode s pos).2)
      have hbel' := Lib.below_iterAt hbel (k := w1.heap.size) hsz1 s (pos + (Utf8.decode s pos).2)
      have hN : w.heap.size ≤ (wr.iterAt w1.heap.size s (pos + (Utf8.decode s pos).2)).heap.size := hbel'.size
      have HS := Lib.hid hst; clear hst
      have HK := Lib.hid hk'; clear hk hk'
      clear hown hbel
      by_cases hr : (Utf8.decode s pos).1 = 0
      · have hrb : (((Utf8.decode s pos).1 : Int) == 0) = true := by rw [hr]; rfl
        have HR := Lib.hid hr; clear hr
        have he : L (Utf8.encode 65533) = F := enc_F
        have hbd : acc.length + (Utf8.encode 65533).size ≤ 140737488355328 := by
          have h1 := congrArg List.length HC.out
          rw [HS.out, HR.out, encR_zero, List.length_append, List.length_append] at h1
          rw [← size_L, he]; omega
        have HE := Lib.hid he; clear he
        go_wp2_with (at_builtin; refine Lib.wpList_append_own_string _ rfl (.tmp 16) (.tmp 18) 44 9 rfl w.heap.size 5 i0 Tryd.underlying44 Tryd.underlying9 hi hz0 hz1 hz2 _ acc.length (acc.map bc) rfl hown' _ rfl (by unfold maxLen; omega) hbd hN ?_; intro v2 w2 hown2 hgrow2 _)
        go_roundw
        case rel =>
          refine ⟨pos + (Utf8.decode s pos).2, acc ++ F, hown'.iterKept hgrow2 HK.out, ?_, ?_, hown'.below hgrow2 hbel' hN⟩
          · rw [strCells_L, HE.out] at hown2
            exact Own.appended hown2 (by rw [← size_L, HE.out])
          · rw [← HC.out, HS.out, List.append_assoc]; rw [HR.out, encR_zero]
        case measure =>
          rw [iterPos_of (hown'.iterKept hgrow2 HK.out), HP.out]
          omega
      · have hrb : (((Utf8.decode s pos).1 : Int) == 0) = false := by simpa using fun h => hr (by omega)
        have he : L (Utf8.encode (Utf8.decode s pos).1) = encR (Utf8.decode s pos).1 := enc_r _ hr
        clear hr
        have hbd : acc.length + (Utf8.encode (Utf8.decode s pos).1).size ≤ 140737488355328 := by
          have h1 := congrArg List.length HC.out
          rw [HS.out, List.length_append, List.length_append] at h1
          rw [← size_L, he]; omega
        have HE := Lib.hid he; clear he
        go_wp2_with (at_builtin; refine Lib.wpList_append_own_string _ rfl (.tmp 16) (.tmp 18) 44 9 rfl w.heap.size 5 i0 Tryd.underlying44 Tryd.underlying9 hi hz0 hz1 hz2 _ acc.length (acc.map bc) rfl hown' _ rfl (by unfold maxLen; omega) hbd hN ?_; intro v2 w2 hown2 hgrow2 _)
        go_roundw
        case rel =>
          refine ⟨pos + (Utf8.decode s pos).2, acc ++ encR (Utf8.decode s pos).1, hown'.iterKept hgrow2 HK.out, ?_, ?_, hown'.below hgrow2 hbel' hN⟩
          · rw [strCells_L, HE.out] at hown2
            exact Own.appended hown2 (by rw [← size_L, HE.out])
          · rw [← HC.out, HS.out, List.append_assoc]
        case measure =>
          rw [iterPos_of (hown'.iterKept hgrow2 HK.out), HP.out]
          omega
    · have hnx : ∀ ty, (Instr.next (.pointer (some ⟨w1.heap.size, 0, none⟩)) true ty).run Tryd.prog wr = _ := fun ty => Lib.run_next_end_at wr _ s pos ty hk hp
      have hcv := hown.string
      clear hk
      go_wp2
      go_ret
      refine ⟨ret_str ?_, hbel⟩
      have h1 := HC.out
      rw [drop_nil s pos hp, dL_nil, List.append_nil] at h1
      rw [h1]

end Go.Proofs.YtoijeljjehjfjaaDoor.Ch

namespace Go.Proofs.YtoijeljjehjfjaaDoor.Ch
set_option maxRecDepth 100000
set_option linter.unusedSimpArgs false
set_option linter.unusedVariables false
open Go.RowKit
theorem drop_cons (s : ByteArray) (k : Nat) (h : k < s.size) : (L s).drop k = s[k] :: (L s).drop (k + 1) := by
  rw [List.drop_eq_getElem_cons (by rw [size_L]; exact h)]
  rfl

/-- Was the byte ahead a 13? -/
def was (s : ByteArray) (k : Nat) : Bool := (L s)[k - 1]? == some 13 && decide (0 < k)

theorem was_zero (s : ByteArray) : was s 0 = false := by simp [was]
theorem was_succ (s : ByteArray) (k : Nat) (h : k < s.size) : was s (k + 1) = (s[k] == 13) := by
  have : (L s)[k]? = some s[k] := by rw [List.getElem?_eq_getElem (by rw [size_L]; exact h)]; rfl
  simp [was, this]

theorem bd {acc rest total : List UInt8} {x : UInt8} {n : Nat} (h : (acc ++ [x]) ++ rest = total) (ht : total.length ≤ n) : acc.length + 1 ≤ n := by
  have h1 := congrArg List.length h
  rw [List.length_append, List.length_append, List.length_cons, List.length_nil] at h1
  omega

theorem Own.alloc {N : Nat} {w : World} {v : Value} {l : List UInt8} (h : Own N w v l) (o : Obj) : Own N (w.alloc o) v l := World.ownsRow.alloc h o

set_option maxHeartbeats 1000000 in
theorem lines_any (s : ByteArray) (w : World) (hs : s.size ≤ 140737488355328) :
    Calls Tryd.prog 71 #[.string s] w fun e w' => e = .returned (.string (B (ln false (L s)))) ∧ Below w.heap.size w w' := by
  obtain ⟨i0, hi, hz0, hz1, hz2⟩ := info_parts info_u8
  have hll := ln_len false (L s)
  rw [size_L] at hll
  go_enter Tryd.func71, Tryd.ntmps71
  go_wp2_with (at_make; refine wpList_make_own _ rfl (.const (.int .i64 0)) (.tmp 6) 44 rfl w.heap.size 5 i0 (.int .u8 0) 1 Tryd.underlying44 hi hz0 hz1 .i64 .i64 _ s.size rfl rfl rfl (by rw [hz2]; omega) (by unfold maxLen; omega) (Nat.le_refl _) ?_; intro w1 hown hgrow)
  have hb0 : Below w.heap.size w w1 := (Below.refl w.heap.size w).grown hgrow (Nat.le_refl _) (by simp)
  have ho0 : Own w.heap.size w1 (.slice (some ⟨w.heap.size, 0, none⟩) 0 s.size) [] := hown
  clear hown hgrow
  go_loopw [3, 4, 10] (fun v _ i wr => ∃ (k : Nat) (acc : List UInt8), i = .int .i64 k ∧ k ≤ s.size ∧ Own w.heap.size wr v acc ∧ acc ++ ln (was s k) ((L s).drop k) = ln false (L s) ∧ Below w.heap.size w wr) (fun _ _ i _ => s.size - (intOf i).toNat)
  case atStart => exact ⟨0, [], rfl, Nat.zero_le _, ho0, by simp [was_zero], hb0⟩
  case round =>
    clear ho0 hb0
    obtain ⟨k, acc, rfl, hks, hown, hc, hbel⟩ := hrel
    have hN := hbel.size
    by_cases hp : k < s.size
    · have hdc := drop_cons s k hp
      rw [hdc] at hc
      have hws := was_succ s k hp
      have HW := Lib.hid hws; clear hws hdc
      by_cases h13 : s[k] = 13
      · have hb13 : ((s[k].toNat : Int) == 13) = true := by rw [h13]; rfl
        have hc' : (acc ++ [10]) ++ ln (was s (k + 1)) ((L s).drop (k + 1)) = ln false (L s) := by
          rw [← hc, h13, ln_13, HW.out, h13, List.append_assoc]; rfl
        have hbd := bd hc' hll
        have HC := Lib.hid hc'; clear hc hc' h13
        go_wp2_with (at_builtin; refine wpList_append_own _ rfl (.tmp 24) (.tmp 25) 44 rfl w.heap.size 5 i0 (.int .u8 0) 1 1 Tryd.underlying44 hi hz0 hz1 hz2 rfl (by decide) _ acc.length (acc.map bc) rfl (hown.alloc _) ⟨wr.heap.size, 0, none⟩ 1 1 [.int .u8 10] rfl rfl (cell_one_new _ _ _) (by intro u hu; simp at hu; subst hu; rfl) (by unfold maxLen; omega) (by omega) (by simp; omega) ?_; intro v2 w2 hown2 hgrow2 _)
        go_roundw
        case rel => exact ⟨k + 1, acc ++ [10], by go_num, by omega, Own.appended (m := [10]) hown2 rfl, HC.out, (hown.alloc _).below hgrow2 (hbel.alloc hN _) (by simp; omega)⟩
        case measure => simp [intOf]; omega
      · have hb13 : ((s[k].toNat : Int) == 13) = false := by
          simpa using fun h => h13 (u8_ext (by simpa using (by omega : s[k].toNat = 13)))
        have hn13 : (s[k] == 13) = false := by simpa using h13
        by_cases h10 : s[k] = 10
        · have hb10 : ((s[k].toNat : Int) == 10) = true := by rw [h10]; rfl
          by_cases h0 : 0 < k
          · obtain ⟨j, rfl⟩ : ∃ j, k = j + 1 := ⟨k - 1, by omega⟩
            have hj : j < s.size := by omega
            have hws := was_succ s j hj
            by_cases hj13 : s[j] = 13
            · have hbj : ((s[j].toNat : Int) == 13) = true := by rw [hj13]; rfl
              have hc' : acc ++ ln (was s (j + 1 + 1)) ((L s).drop (j + 1 + 1)) = ln false (L s) := by
                rw [← hc, h10, HW.out, hn13, hws, hj13]
                exact congrArg (acc ++ ·) (ln_10 _).symm
              have HC := Lib.hid hc'; clear hc hc' hws hj13 h10 h13 hn13 h0
              go_wp2_with fail
              go_roundw
              case rel => exact ⟨j + 1 + 1, acc, by go_num, by omega, hown, HC.out, hbel⟩
              case measure => simp [intOf]; omega
            · have hbj : ((s[j].toNat : Int) == 13) = false := by
                simpa using fun h => hj13 (u8_ext (by simpa using (by omega : s[j].toNat = 13)))
              have hc' : (acc ++ [s[j + 1]]) ++ ln (was s (j + 1 + 1)) ((L s).drop (j + 1 + 1)) = ln false (L s) := by
                rw [← hc, ln_other _ _ _ h13 ?_, HW.out, hn13, List.append_assoc]; rfl
                rw [hws]; simp [hj13]
              have hbd := bd hc' hll
              have HC := Lib.hid hc'; clear hc hc' hws hj13 h10 h13 hn13 h0
              go_wp2_with (at_builtin; refine wpList_append_own _ rfl (.tmp 13) (.tmp 17) 44 rfl w.heap.size 5 i0 (.int .u8 0) 1 1 Tryd.underlying44 hi hz0 hz1 hz2 rfl (by decide) _ acc.length (acc.map bc) rfl (hown.alloc _) ⟨wr.heap.size, 0, none⟩ 1 1 [.int .u8 s[j + 1].toNat] rfl rfl (cell_one_new _ _ _) (by intro u hu; simp at hu; subst hu; rfl) (by unfold maxLen; omega) (by omega) (by simp; omega) ?_; intro v2 w2 hown2 hgrow2 _)
              go_roundw
              case rel => exact ⟨j + 1 + 1, acc ++ [s[j + 1]], by go_num, by omega, Own.appended (m := [s[j + 1]]) hown2 rfl, HC.out, (hown.alloc _).below hgrow2 (hbel.alloc hN _) (by simp; omega)⟩
              case measure => simp [intOf]; omega
          · obtain rfl : k = 0 := by omega
            have hc' : (acc ++ [s[0]]) ++ ln (was s (0 + 1)) ((L s).drop (0 + 1)) = ln false (L s) := by
              rw [← hc, ln_other _ _ _ h13 ?_, HW.out, hn13, List.append_assoc]; rfl
              rw [was_zero]; simp
            have hbd := bd hc' hll
            have HC := Lib.hid hc'; clear hc hc' h10 h13 hn13 h0
            go_wp2_with (at_builtin; refine wpList_append_own _ rfl (.tmp 13) (.tmp 17) 44 rfl w.heap.size 5 i0 (.int .u8 0) 1 1 Tryd.underlying44 hi hz0 hz1 hz2 rfl (by decide) _ acc.length (acc.map bc) rfl (hown.alloc _) ⟨wr.heap.size, 0, none⟩ 1 1 [.int .u8 s[0].toNat] rfl rfl (cell_one_new _ _ _) (by intro u hu; simp at hu; subst hu; rfl) (by unfold maxLen; omega) (by omega) (by simp; omega) ?_; intro v2 w2 hown2 hgrow2 _)
            go_roundw
            case rel => exact ⟨0 + 1, acc ++ [s[0]], by go_num, by omega, Own.appended (m := [s[0]]) hown2 rfl, HC.out, (hown.alloc _).below hgrow2 (hbel.alloc hN _) (by simp; omega)⟩
            case measure => simp [intOf]; omega
        · have hb10 : ((s[k].toNat : Int) == 10) = false := by
            simpa using fun h => h10 (u8_ext (by simpa using (by omega : s[k].toNat = 10)))
          have hc' : (acc ++ [s[k]]) ++ ln (was s (k + 1)) ((L s).drop (k + 1)) = ln false (L s) := by
            rw [← hc, ln_other _ _ _ h13 (fun x => h10 x.1), HW.out, hn13, List.append_assoc]; rfl
          have hbd := bd hc' hll
          have HC := Lib.hid hc'; clear hc hc'
          clear h13 h10 hn13
          go_wp2_with (at_builtin; refine wpList_append_own _ rfl (.tmp 13) (.tmp 17) 44 rfl w.heap.size 5 i0 (.int .u8 0) 1 1 Tryd.underlying44 hi hz0 hz1 hz2 rfl (by decide) _ acc.length (acc.map bc) rfl (hown.alloc _) ⟨wr.heap.size, 0, none⟩ 1 1 [.int .u8 s[k].toNat] rfl rfl (cell_one_new _ _ _) (by intro u hu; simp at hu; subst hu; rfl) (by unfold maxLen; omega) (by omega) (by simp; omega) ?_; intro v2 w2 hown2 hgrow2 _)
          go_roundw
          case rel => exact ⟨k + 1, acc ++ [s[k]], by go_num, by omega, Own.appended (m := [s[k]]) hown2 rfl, HC.out, (hown.alloc _).below hgrow2 (hbel.alloc hN _) (by simp; omega)⟩
          case measure => simp [intOf]; omega
    · have hcv := hown.string
      rw [List.drop_eq_nil_of_le (by rw [size_L]; omega)] at hc
      have HC := Lib.hid hc; clear hc
      go_wp2
      go_ret
      refine ⟨ret_str ?_, hbel⟩
      have h1 := HC.out
      rw [show ln (was s k) [] = [] from by cases (was s k) <;> rfl, List.append_nil] at h1
      rw [h1]

theorem ready_any (s : ByteArray) (w : World) (hs : s.size ≤ 140737488355328) (hd : (dL (L s)).length ≤ 140737488355328) :
    Calls Tryd.prog 43 #[.string s] w fun e w' => e = .returned (.string (B (ln false (dL (L s))))) ∧ Below w.heap.size w w' := by
  go_enter Tryd.func43, Tryd.ntmps43
  go_wp2_with fail
  refine (decode_any s _ hs hd).mono ?_
  rintro e w1 ⟨rfl, hb1⟩
  go_wp2_with fail
  refine (lines_any (B (dL (L s))) _ (by rw [size_B]; exact hd)).mono ?_
  rintro e w2 ⟨rfl, hb2⟩
  go_wp2
  go_ret
  exact ⟨ret_str (by rw [L_B]), hb1.trans (hb2.mono hb1.size)⟩

end Go.Proofs.YtoijeljjehjfjaaDoor.Ch

namespace Go.Proofs.YtoijeljjehjfjaaDoor.Bu
set_option maxRecDepth 100000
set_option linter.unusedVariables false
set_option linter.unusedSimpArgs false
open Go.RowKit Ba Fm Fo Nm Bm
open Ro (At Ro Cw ros Fr Ow Rv)
open Tm (Tk within bulk bulkT bulkA)
open To (Tw tks)
open Re (Tab)
/-- Bytes made ready. -/
def rdy (l : List UInt8) : List UInt8 := Ch.ln false (Ch.dL l)
theorem len_rdy (l : List UInt8) : (rdy l).length ≤ 3 * l.length := Nat.le_trans (Ch.ln_len _ _) (Ch.len_dL l)
theorem ready1 (s : ByteArray) (w : World) (hs : s.size ≤ 5000) :
    Calls Tryd.prog 43 #[.string s] w fun e w' => e = .returned (.string (B (rdy (L s)))) ∧ Below w.heap.size w w' := by
  have hsz := size_L s
  have hdl := Ch.len_dL (L s)
  refine (Ch.ready_any s w (by omega) (show (Ch.dL (L s)).length ≤ _ from by omega)).mono ?_
  rintro e w1 ⟨rfl, b1⟩
  exact ⟨rfl, b1⟩
theorem dsum_bulk : ∀ l : List Tk, dsum l ≤ bulk l
  | [] => Nat.zero_le _
  | t :: r => by
    have := dsum_bulk r
    show t.data.size + dsum r ≤ (List.map bulkT (t :: r)).sum
    rw [List.map_cons, List.sum_cons]
    have e : bulkT t = t.name.size + t.data.size + bulkA t.attrs + t.attrs.length := rfl
    have e2 : bulk r = (List.map bulkT r).sum := rfl
    omega
/-- What In comes to, and how great it may be. -/
def SaysM (w : World) (r : Option (List Ro)) (e : Ending) (w' : World) : Prop :=
  (match r with
  | none => e = .returned (.tuple #[.slice none 0 0, .int .i64 2])
  | some o => ∃ v y, e = .returned (.tuple #[v, .int .i64 0]) ∧ Rv w' v y ∧ ros y = o ∧ Ro.Few o ∧ (Ro.txt o).length ≤ 1000000000) ∧ Below w.heap.size w w'
/-- What In and Parse come to. -/
def Says (w : World) (r : Option (List Ro)) (e : Ending) (w' : World) : Prop :=
  (match r with
  | none => e = .returned (.tuple #[.slice none 0 0, .int .i64 2])
  | some o => ∃ v y, e = .returned (.tuple #[v, .int .i64 0]) ∧ Rv w' v y ∧ ros y = o) ∧ Below w.heap.size w w'
theorem TreeSays.cases {w w' : World} {t : List Tk} {e : Ending} (h : TreeSays w t e w') :
    (treeB ⟨[], []⟩ t = none ∧ e = .returned (.tuple #[.slice none 0 0, .int .i64 2]) ∧ Below w.heap.size w w') ∨
    (∃ o v y, treeB ⟨[], []⟩ t = some o ∧ e = .returned (.tuple #[v, .int .i64 0]) ∧ Ow w.heap.size w' v y ∧ (∀ z ∈ y, Fr w.heap.size w' z) ∧ ros y = o ∧ (Ro.Few o ∧ (Ro.txt o).length ≤ 1000000000) ∧ Below w.heap.size w w') := by
  obtain ⟨h1, h2⟩ := h
  cases ht : treeB ⟨[], []⟩ t with
  | none => rw [ht] at h1; exact .inl ⟨rfl, h1, h2⟩
  | some o =>
    rw [ht] at h1
    obtain ⟨v, y, e1, e2, e3, e4, e5⟩ := h1
    exact .inr ⟨o, v, y, rfl, e1, e2, e3, e4, e5, h2⟩
theorem good_zero : ∀ {l : List Ro} {p : List ByteArray}, goodFrom p l → ∀ x ∈ l, 0 ≤ x.depth
  | [], p, _, x, h => by cases h
  | y :: l, p, h, x, hx => by
    rcases List.mem_cons.1 hx with e | e
    · rw [e]; exact h.1.1
    · exact good_zero h.2 x e
theorem tree_held {t : List Tk} {o : List Ro} (h : treeB ⟨[], []⟩ t = some o) : Ro.Held o := fun x hx => by
  obtain ⟨h1, _, _, h2⟩ := tree_all h
  have := good_zero h1 x hx
  have := h2.2 x hx
  omega

set_option maxRecDepth 100000 in
set_option maxHeartbeats 1000000 in
theorem In_any (s nm : ByteArray) (w : World) (hs : s.size ≤ 5000) (hn : nm.size ≤ 140737488351232) (hT : Tab w) :
    Calls Tryd.prog 17 #[.string s, .string nm] w fun e w' => SaysM w (treeB ⟨[], []⟩ (within (L nm) (rdy (L s)))) e w' := by
  have h : decide ((65536 : Int) < (s.size : Int)) = false := decide_eq_false (by omega)
  have hsz := size_L s
  have hdl := Ch.len_dL (L s)
  have hrl := len_rdy (L s)
  have HT := Lib.hid hT
  clear hT
  go_enter Tryd.func17, Tryd.ntmps17
  go_wp2_with fail
  refine (ready1 s w hs).mono ?_
  rintro e w1 ⟨rfl, b1⟩
  have hT1 := HT.out.below b1
  have HB1 := Lib.hid b1
  clear b1
  go_wp2_with fail
  refine (To.In_any (B (rdy (L s))) nm w1 (by rw [size_B]; omega) hn hT1).mono ?_
  rintro e w2 ⟨V, l, rfl, ho, hl, b2⟩
  rw [L_B] at hl
  obtain ⟨A, c, rfl, hc, _, _, hr⟩ := ho.form
  have hwl := Tm.within_len (L nm) (rdy (L s))
  have hwb := Tm.bulk_within (L nm) (rdy (L s))
  have hl' : tks l = within (L nm) (rdy (L s)) := hl
  have hll : l.length ≤ 200000 := by rw [← To.len_tks, hl']; omega
  have hds : dsum (tks l) ≤ 1000000000 := by
    have := dsum_bulk (tks l)
    rw [hl'] at this ⊢
    omega
  have hat : ∀ x ∈ l, x.tk.attrs.length ≤ 1000000 := fun x hx => by
    have h1 := Tm.bulk_mem (l := tks l) (t := x.tk) (List.mem_map.2 ⟨x, hx, rfl⟩)
    rw [hl'] at h1
    unfold bulkT at h1
    omega
  have HL := Lib.hid hl'; have HR := Lib.hid hr; have HB2 := Lib.hid (bt HB1.out b2)
  clear hl hl' hr ho b2 hwl hwb hT1 hdl hrl hsz
  go_wp2_with fail
  refine (Tree_any A c l w2 HR.out hc hll hds hat).mono ?_
  intro e w3 h3
  rw [HL.out] at h3
  rcases h3.cases with ⟨ht, rfl, b3⟩ | ⟨o, v, y, ht, rfl, how, hfr, hros, hmi, b3⟩
  · have HTR := Lib.hid ht
    clear ht h3
    go_wp2
    go_ret2
    rw [HTR.out]
    exact ⟨rfl, bt HB2.out b3⟩
  · have HTR := Lib.hid ht; have HO := Lib.hid how; have HRO := Lib.hid hros; have HB3 := Lib.hid (bt HB2.out b3)
    clear ht h3 how hfr hros b3
    go_wp2
    go_ret2
    rw [HTR.out]
    exact ⟨⟨v, y, rfl, HO.out.rv (by rw [HRO.out]; exact tree_held HTR.out), HRO.out, hmi⟩, HB3.out⟩

theorem In1 (s nm : ByteArray) (w : World) (r : Option (List Ro)) (hs : s.size ≤ 5000) (hn : nm.size ≤ 140737488351232) (hT : Tab w) (hr : treeB ⟨[], []⟩ (within (L nm) (rdy (L s))) = r) :
    Calls Tryd.prog 17 #[.string s, .string nm] w fun e w' => Says w r e w' := by
  subst hr
  refine (In_any s nm w hs hn hT).mono ?_
  rintro e w' ⟨h1, h2⟩
  refine ⟨?_, h2⟩
  cases ht : treeB ⟨[], []⟩ (within (L nm) (rdy (L s))) with
  | none => rw [ht] at h1; exact h1
  | some o =>
    rw [ht] at h1
    obtain ⟨v, y, a, b, c, _⟩ := h1
    exact ⟨v, y, a, b, c⟩
theorem Parse1 (s : ByteArray) (w : World) (r : Option (List Ro)) (hs : s.size ≤ 5000) (hT : Tab w) (hr : treeB ⟨[], []⟩ (within [] (rdy (L s))) = r) :
    Calls Tryd.prog 23 #[.string s] w fun e w' => Says w r e w' := by
  go_enter Tryd.func23, Tryd.ntmps23
  go_wp2_with fail
  refine (In1 s _ w r hs (by decide) hT hr).mono ?_
  intro e w1 h1
  cases r with
  | none =>
    obtain ⟨rfl, b1⟩ := h1
    go_wp2
    go_ret2
    exact ⟨rfl, b1⟩
  | some o =>
    obtain ⟨⟨v, y, rfl, hv, hy⟩, b1⟩ := h1
    have HV := Lib.hid hv; have HY := Lib.hid hy
    clear hv hy hr
    go_wp2
    go_ret2
    exact ⟨⟨v, y, rfl, HV.out, HY.out⟩, b1⟩

end Go.Proofs.YtoijeljjehjfjaaDoor.Bu

namespace Go.Proofs.YtoijeljjehjfjaaDoor.Tm
set_option linter.unusedVariables false
set_option linter.unusedSimpArgs false
open Ba Fm Rm Nm
open Ro (At)
def runF (f : List UInt8 → List UInt8 × Nat) : Nat → List UInt8 → List UInt8
  | 0, _ => []
  | n + 1, l => if l.isEmpty = true then [] else (f l).1 ++ runF f n (l.drop ((f l).2 - 1 + 1))
theorem run_eval (f : List UInt8 → List UInt8 × Nat) : ∀ (n : Nat) (l : List UInt8), l.length ≤ n → run f l = runF f n l
  | 0, l, h => by
    have : l = [] := List.eq_nil_of_length_eq_zero (by omega)
    rw [this, run_nil]
    rfl
  | n + 1, l, h => by
    by_cases he : l = []
    · rw [he, run_nil]; rfl
    · rw [run, dif_neg he]
      have hi : l.isEmpty = false := by simpa using he
      show _ = if l.isEmpty = true then [] else _
      rw [if_neg (by rw [hi]; simp), run_eval f n]
      have : 0 < l.length := List.length_pos_iff.2 he
      rw [List.length_drop]
      omega
def decF (l : List UInt8) : List UInt8 := runF fst l.length l
theorem dec_eval : dec = decF := funext fun l => run_eval fst l.length l (Nat.le_refl _)
def valuedF (l : List UInt8) : List UInt8 × List UInt8 :=
  if l.head? = some 61 then (decF (value (trimS (l.drop 1))).1, (value (trimS (l.drop 1))).2) else ([], l)
theorem valued_eval : valued = valuedF := by funext l; unfold valued valuedF; rw [dec_eval]
def attrF (c : UInt8) (r : List UInt8) : At × List UInt8 :=
  (⟨B (lowL (c :: upTo ea r)), B (valuedF (trimS (from_ ea r))).1⟩, (valuedF (trimS (from_ ea r))).2)
theorem attr_eval : attr = attrF := by funext c r; unfold attr attrF; rw [valued_eval]
def attrsF : Nat → Bool → List At → List UInt8 → Option (List At × Bool × List UInt8)
  | 0, _, _, _ => none
  | _ + 1, _, _, [] => none
  | n + 1, self, acc, c :: r => if c = 62 then some (acc, self, r) else if c = 47 ∨ sp c = true then attrsF n (c == 47) acc r else attrsF n false (put acc (attrF c r).1) (attrF c r).2
theorem attrs_eval : ∀ (n : Nat) (self : Bool) (acc : List At) (l : List UInt8), l.length < n → attrs self acc l = attrsF n self acc l
  | 0, _, _, _, h => absurd h (by omega)
  | n + 1, self, acc, [], _ => attrs_nil self acc
  | n + 1, self, acc, c :: r, h => by
    simp only [List.length_cons] at h
    have h3 := len_attr c r
    rw [attrs]
    show _ = if c = 62 then some (acc, self, r) else if c = 47 ∨ sp c = true then attrsF n (c == 47) acc r else attrsF n false (put acc (attrF c r).1) (attrF c r).2
    rw [attrs_eval n _ _ r (by omega), attrs_eval n _ _ (attr c r).2 (by omega), attr_eval]
def contF (n : List UInt8) (l : List UInt8) : List Tk × List UInt8 :=
  if rawB n = true then (txt (lead (isEnd n) l), trail (isEnd n) l)
  else if softB n = true then (txt (decF (lead (isEnd n) l)), trail (isEnd n) l)
  else ([], l)
theorem cont_eval : cont = contF := by funext n l; unfold cont contF; rw [dec_eval]
def startF (l : List UInt8) : List Tk × List UInt8 := match attrsF ((from_ en l).length + 1) false [] (from_ en l) with
  | none => ([], [])
  | some (bs, self, r) => (⟨1, B (lowL (upTo en l)), B [], bs, self⟩ :: (contF (lowL (upTo en l)) r).1, (contF (lowL (upTo en l)) r).2)
def endF (l : List UInt8) : List Tk × List UInt8 := match attrsF ((from_ en l).length + 1) false [] (from_ en l) with
  | none => ([], [])
  | some (bs, self, r) => ([⟨2, B (lowL (upTo en l)), B [], [], false⟩], r)
theorem start_eval : startTag = startF := by funext l; unfold startTag startF; rw [attrs_eval ((from_ en l).length + 1) _ _ _ (Nat.lt_succ_self _), cont_eval]; rfl
theorem end_eval : endTag = endF := by funext l; unfold endTag endF; rw [attrs_eval ((from_ en l).length + 1) _ _ _ (Nat.lt_succ_self _)]; rfl
def mkF (l : List UInt8) : List Tk × List UInt8 :=
  if begun l = 1 then startF (l.drop 1)
  else if begun l = 2 then endF (l.drop 2)
  else if begun l = 3 then ([], l.drop 3)
  else if begun l = 4 then ([⟨3, B [], B (comm (l.drop 4)).1, [], false⟩], (comm (l.drop 4)).2)
  else if begun l = 5 then ([⟨4, B [], B (trimL (closed (l.drop 9)).1), [], false⟩], (closed (l.drop 9)).2)
  else if begun l = 6 then ([⟨3, B [], B (closed (marks (l.drop 1))).1, [], false⟩], (closed (marks (l.drop 1))).2)
  else ([], l)
theorem mk_eval : mk = mkF := by funext l; unfold mk mkF; rw [start_eval, end_eval]
def turnF (l : List UInt8) : List Tk × List UInt8 := (txt (decF (lead bg l)) ++ (mkF (trail bg l)).1, (mkF (trail bg l)).2)
theorem turn_eval : turn = turnF := by funext l; unfold turn turnF; rw [dec_eval, mk_eval]
def cutF : Nat → List UInt8 → List Tk
  | 0, _ => []
  | n + 1, l => if l.isEmpty = true then [] else (turnF l).1 ++ cutF n (turnF l).2
theorem cut_eval : ∀ (n : Nat) (l : List UInt8), l.length ≤ n → cut l = cutF n l
  | 0, l, h => by
    have : l = [] := List.eq_nil_of_length_eq_zero (by omega)
    rw [this]
    exact To.cut_nil
  | n + 1, l, h => by
    by_cases he : l = []
    · rw [he]; exact To.cut_nil
    · have hi : l.isEmpty = false := by simpa using he
      have hl := To.len_turn he
      show _ = if l.isEmpty = true then [] else _
      rw [if_neg (by rw [hi]; simp), To.cut_step he, cut_eval n _ (by omega), turn_eval]
def withinF (n l : List UInt8) : List Tk := (contF n l).1 ++ cutF l.length (contF n l).2
theorem within_eval (n l : List UInt8) : within n l = withinF n l := by
  unfold within withinF
  rw [cut_eval l.length _ (To.len_cont n l), cont_eval]
end Go.Proofs.YtoijeljjehjfjaaDoor.Tm

namespace Go.Proofs.YtoijeljjehjfjaaDoor.Bm
set_option linter.unusedVariables false
set_option linter.unusedSimpArgs false
open Ba Fm Nm
open Ro (At Ro)
open Tm (Tk put tx)
def closedF (ns ws : List ByteArray) : Nat → List ByteArray → List ByteArray
  | 0, s => s
  | k + 1, s => match findS ns ws s with
    | none => s
    | some r => closedF ns ws k r
theorem closed_eval (ns ws : List ByteArray) : ∀ (k : Nat) (s : List ByteArray), s.length ≤ k → closedS ns ws s = closedF ns ws k s
  | 0, s, h => by
    obtain rfl : s = [] := List.eq_nil_of_length_eq_zero (by omega)
    rw [closedS_no rfl]
    rfl
  | k + 1, s, h => by
    unfold closedF
    cases hf : findS ns ws s with
    | none => rw [closedS_no hf]
    | some r =>
      rw [closedS_yes hf]
      exact closed_eval ns ws k r (by have := findS_len hf; omega)
def openedF (n : ByteArray) (s : List ByteArray) : List ByteArray :=
  if para n = true then closedF [n_p] (wallsL n_p) s.length (closedF (closesL n) (wallsL n) s.length s) else closedF (closesL n) (wallsL n) s.length s
theorem opened_eval (n : ByteArray) (s : List ByteArray) : openedS n s = openedF n s := by
  unfold openedS openedF
  rw [← closed_eval _ _ s.length s (Nat.le_refl _), ← closed_eval _ _ s.length _ (closedS_end _ _ _).2.length_le]
def stepF (st : St) (t : Tk) : St :=
  if t.kind = 0 then (if t.data = ⟨#[]⟩ then st else ⟨st.stk, addText st.out st.stk.length t.data⟩)
  else if t.kind = 3 then ⟨st.stk, st.out ++ [⟨st.stk.length, 2, ⟨#[]⟩, t.data, []⟩]⟩
  else if t.kind = 1 then (if noName t.name = true then st else ⟨if isIn t.name voidL = true then openedF t.name st.stk else t.name :: openedF t.name st.stk, st.out ++ [⟨(openedF t.name st.stk).length, 0, t.name, ⟨#[]⟩, once t.attrs⟩]⟩)
  else if t.kind = 2 then (if noName t.name = true ∨ isIn t.name voidL = true then st else
    match findS [t.name] (endWalls t.name) st.stk with
    | some r => ⟨r, st.out⟩
    | none => if t.name = n_p then ⟨st.stk, st.out ++ [⟨st.stk.length, 0, n_p, ⟨#[]⟩, []⟩]⟩ else st)
  else st
theorem step_eval (st : St) (t : Tk) : stepB st t = stepF st t := by
  unfold stepB stepF
  rw [← opened_eval]
  rfl
def treeF (st : St) : List Tk → Option (List Ro)
  | [] => some st.out
  | t :: r => if tooBig (stepF st t).out = true then none else treeF (stepF st t) r
theorem tree_eval : ∀ (l : List Tk) (st : St), treeB st l = treeF st l
  | [], st => rfl
  | t :: r, st => by
    show (if tooBig (stepB st t).out = true then none else treeB (stepB st t) r) = (if tooBig (stepF st t).out = true then none else treeF (stepF st t) r)
    rw [step_eval, tree_eval r]
def nestedF (n : ByteArray) (o : List ByteArray) : Bool := decide ((openedF n o.reverse).length = o.length)
theorem nested_eval (n : ByteArray) (o : List ByteArray) : nestedB n o = nestedF n o := by
  unfold nestedB nestedF
  rw [opened_eval]

abbrev rE (d : Int) (n : List UInt8) : Ro := ⟨d, 0, B n, ⟨#[]⟩, []⟩
abbrev rT (d : Int) (s : List UInt8) : Ro := ⟨d, 1, ⟨#[]⟩, B s, []⟩
abbrev t1 (n : List UInt8) : Tk := ⟨1, B n, B [], [], false⟩
abbrev t2 (n : List UInt8) : Tk := ⟨2, B n, B [], [], false⟩
set_option maxRecDepth 100000 in
theorem tokA : Tm.within [] [60, 112, 62, 97, 60, 112, 62, 98] = [t1 [112], tx [97], t1 [112], tx [98]] := by rw [Tm.within_eval]; decide
set_option maxRecDepth 100000 in
theorem treA : treeB ⟨[], []⟩ [t1 [112], tx [97], t1 [112], tx [98]] = some [rE 0 [112], rT 1 [97], rE 0 [112], rT 1 [98]] := by rw [tree_eval]; decide
set_option maxRecDepth 100000 in
theorem tokB : Tm.within [] [60, 117, 108, 62, 60, 108, 105, 62, 97, 60, 108, 105, 62, 98, 60, 47, 117, 108, 62, 99] = [t1 [117, 108], t1 [108, 105], tx [97], t1 [108, 105], tx [98], t2 [117, 108], tx [99]] := by rw [Tm.within_eval]; decide
set_option maxRecDepth 100000 in
theorem treB : treeB ⟨[], []⟩ [t1 [117, 108], t1 [108, 105], tx [97], t1 [108, 105], tx [98], t2 [117, 108], tx [99]] = some [rE 0 [117, 108], rE 1 [108, 105], rT 2 [97], rE 1 [108, 105], rT 2 [98], rT 0 [99]] := by rw [tree_eval]; decide
set_option maxRecDepth 100000 in
theorem tokC : Tm.within [] [60, 47, 112, 62] = [t2 [112]] := by rw [Tm.within_eval]; decide
set_option maxRecDepth 100000 in
theorem treC : treeB ⟨[], []⟩ [t2 [112]] = some [rE 0 [112]] := by rw [tree_eval]; decide
set_option maxRecDepth 100000 in
theorem tokD : Tm.within [] [97, 60, 47, 98, 62, 99] = [tx [97], t2 [98], tx [99]] := by rw [Tm.within_eval]; decide
set_option maxRecDepth 100000 in
theorem treD : treeB ⟨[], []⟩ [tx [97], t2 [98], tx [99]] = some [rT 0 [97, 99]] := by rw [tree_eval]; decide
set_option maxRecDepth 100000 in
theorem tokE : Tm.within [115, 116, 121, 108, 101] [97, 60, 98, 62] = [tx [97, 60, 98, 62]] := by rw [Tm.within_eval]; decide
set_option maxRecDepth 100000 in
theorem treE : treeB ⟨[], []⟩ [tx [97, 60, 98, 62]] = some [rT 0 [97, 60, 98, 62]] := by rw [tree_eval]; decide
theorem nesA : nestedB n_p [n_p, ⟨#[98]⟩] = false := by rw [nested_eval]; decide
theorem nesB : nestedB n_p [n_p, n_td] = true := by rw [nested_eval]; decide

end Go.Proofs.YtoijeljjehjfjaaDoor.Bm

namespace Go.Proofs.YtoijeljjehjfjaaDoor.Re
set_option maxRecDepth 100000
set_option linter.unusedSimpArgs false
set_option linter.unusedVariables false
open Go.ChangeShapes Go.WideShapes Go.ChangeAt Go.RowKit Ba Rm
abbrev laidL : List (String × DataW Unit) := [("bolting/refs.named", Rows.laid_bolting_refs_named)]
theorem gNamed : Tryd.prog.globalNamed "bolting/refs.named" = some 0 := by kernel_rfl
theorem tNamed : (Tryd.prog.globals[0]?).map (·.type) = some 109 := by kernel_rfl
theorem datum : (Rows.laid_bolting_refs_named : DataW Unit) = .agg (tab.map fun p => .agg [.lit (.string p.1), .lit (.int .i64 p.2)]) := by kernel_rfl
theorem c34 : Tryd.prog.cellsOf 108 = 2 := by kernel_rfl
theorem c9 : Tryd.prog.cellsOf 9 = 1 := by kernel_rfl
theorem c3 : Tryd.prog.cellsOf 3 = 1 := by kernel_rfl

theorem door_met (os : Os) (args : Array Value) : laidMetH Tryd.prog laidL ((World.doorLaid Tryd.prog 400 os).forCall (fun _ _ => 0) ⟨#[], args, []⟩).memory :=
  laidMetH_of_parts3 (fuel := 8) (laidMet_of_run' 8 (by kernel_rfl) (by kernel_rfl)) (by kernel_rfl) (by kernel_rfl)

theorem pair_at {W : World} {enc : TypeId × Value → Unit} {sp : Nat → Bool} {hd : Bool} {m : Nat} {cs : List Value} {x : DataW Unit × List MemPlace} {p : List UInt8 × Nat}
    (h : DataW.trod enc Tryd.prog W 0 sp hd m 108 cs = some x) (e : x.1 = .agg [.lit (.string p.1), .lit (.int .i64 p.2)]) : cs = [.string (B p.1), .int .i64 p.2] := by
  obtain ⟨y0, y1, n, rfl, hl, h0, h1⟩ := trod_struct2 Tryd.underlying108 h
  rw [c34] at hl
  simp only [DataW.agg.injEq, List.cons.injEq, and_true] at e
  obtain ⟨e0, e1⟩ := e
  obtain ⟨s, q0, rfl, _⟩ := DataW.trod_string Tryd.underlying9 h0
  obtain ⟨k, q1, rfl, _⟩ := DataW.trod_int Tryd.underlying3 h1
  simp only [DataW.lit.injEq, Lit.string.injEq, Lit.int.injEq, true_and] at e0 e1
  have q0' : (cs.drop 0).take 1 = [.string s] := by rw [← q0]; rw [show Tryd.prog.cellsOf _ = 1 from c9]
  have q1' : (cs.drop 1).take 1 = [.int .i64 k] := by rw [← q1]; rw [show Tryd.prog.cellsOf _ = 1 from c3]
  match cs, hl, q0', q1' with
  | [a, b], _, q0', q1' =>
    simp at q0' q1'
    rw [q0', q1', e1, show s = B p.1 from B_of e0]

set_option maxRecDepth 100000 in
theorem tab_of_laid {W : World} (h : laidMetH Tryd.prog laidL W) : Tab W := by
  rw [MakeChecks.laidMetH_plain _ _ _ (by kernel_rfl)] at h
  obtain ⟨ps, ⟨g0, t0, cs0, f0, p0, q0, hg0, ht0, hv0, hd0, _, _⟩, _, _⟩ := h
  obtain rfl := Option.some.inj (gNamed.symm.trans hg0)
  obtain rfl := Option.some.inj (tNamed.symm.trans ht0)
  rw [datum] at hd0
  obtain ⟨xs, m, rfl, hx, hlen, hn, hel⟩ := DataW.trod_array Tryd.underlying109 hd0
  simp only [Prod.mk.injEq, DataW.agg.injEq] at hx
  have hc : ∀ i, i < 24 → ∀ p, tab[i]? = some p → (cs0.toList.drop (2 * i)).take 2 = [.string (B p.1), .int .i64 p.2] := by
    intro i hi p hp
    have h1 := hel i hi
    rw [c34, Nat.mul_comm i 2] at h1
    have hxi : i < xs.length := by omega
    rw [List.getElem?_eq_getElem hxi] at h1
    refine pair_at h1 ?_
    have h2 := congrArg (fun l => l[i]?) hx.1
    simp only [List.getElem?_map, hp, Option.map_some, List.getElem?_eq_getElem hxi, Option.some.injEq] at h2
    exact h2.symm
  have hcell : ∀ j v, (cellsOf2 tab)[j]? = some v → W.cell? ⟨0, j, none⟩ = some v := by
    intro j v hv
    rw [World.var?_cell hg0 hv0 j, ← Array.getElem?_toList]
    have hj : j < 48 := (List.getElem?_eq_some_iff.1 hv).1
    have hi : j / 2 < 24 := by omega
    obtain ⟨p, hp⟩ : ∃ p, tab[j / 2]? = some p := ⟨_, List.getElem?_eq_getElem (show j / 2 < tab.length from hi)⟩
    have h1 := hc (j / 2) hi p hp
    have h2 : ((cellsOf2 tab).drop (2 * (j / 2))).take 2 = [.string (B p.1), .int .i64 p.2] := by
      rw [cellsOf2_drop]
      have : tab.drop (j / 2) = p :: tab.drop (j / 2 + 1) := by
        rw [List.drop_eq_getElem_cons (show j / 2 < tab.length from hi)]
        congr 1
        rw [List.getElem?_eq_getElem (show j / 2 < tab.length from hi)] at hp
        exact Option.some.inj hp
      rw [this]; rfl
    have h3 : ∀ l : List Value, ((l.drop (2 * (j / 2))).take 2)[j % 2]? = l[j]? := fun l => by
      rw [List.getElem?_take_of_lt (by omega), List.getElem?_drop]
      congr 1
      omega
    rw [← h3, h1, ← h2, h3]
    exact hv
  refine ⟨fun j v hv => by rw [Nat.zero_add]; exact hcell j v hv, ?_⟩
  have h0 := hcell 0 (.string (B [97, 109, 112])) rfl
  cases hz : W.heap.size with
  | succ n => omega
  | zero =>
    have : W.heap[0]? = none := Array.getElem?_eq_none (by omega)
    simp [World.cell?, this] at h0

end Go.Proofs.YtoijeljjehjfjaaDoor.Re

namespace Go.Proofs.YtoijeljjehjfjaaDoor.Bu
set_option maxRecDepth 100000
set_option linter.unusedVariables false
set_option linter.unusedSimpArgs false
open Go.RowKit Ba Fm Fo Nm Bm
open Ro (At Ro Cw ros Fr Ow Rv cells bare rows_new refSame1)
open Tm (Tk within tx)
open Re (Tab)
theorem el_any (d : Int) (n : ByteArray) (w : World) : Calls Tryd.prog 29 #[.int .i64 d, .string n] w fun e w' => e = .returned (.agg #[.int .i64 d, .int .i64 0, .string n, .string ⟨#[]⟩, .slice none 0 0]) ∧ Below w.heap.size w w' := by
  go_enter Tryd.func29, Tryd.ntmps29
  go_wp2
  refine bodyPost_ret (v := .agg #[.int .i64 d, .int .i64 0, .string n, .string ⟨#[]⟩, .slice none 0 0]) (by simp [results, Tryd.f29, go_sem]) rfl ?_
  exact ⟨rfl, below_one w _⟩
theorem text_any (d : Int) (n : ByteArray) (w : World) : Calls Tryd.prog 30 #[.int .i64 d, .string n] w fun e w' => e = .returned (.agg #[.int .i64 d, .int .i64 1, .string ⟨#[]⟩, .string n, .slice none 0 0]) ∧ Below w.heap.size w w' := by
  go_enter Tryd.func30, Tryd.ntmps30
  go_wp2
  refine bodyPost_ret (v := .agg #[.int .i64 d, .int .i64 1, .string ⟨#[]⟩, .string n, .slice none 0 0]) (by simp [results, Tryd.f30, go_sem]) rfl ?_
  exact ⟨rfl, below_one w _⟩

theorem ros_bare (o : List Ro) : ros (o.map bare) = o := by
  unfold ros
  rw [List.map_map]
  exact List.map_id _
/-- What was told is held against rows written out. -/
theorem sameR (w : World) (V : Value) (x : List Cw) (o : List Ro) (cs : Array Value) (n : Nat) (hv : Rv w V x) (hx : x.length ≤ 1000) (hn : o.length = n) (hm : n ≤ 1000) (ha : ∀ r ∈ o, r.attrs = []) (hh : Ro.Held o) (hcs : cs.toList = (o.map bare).flatMap cells) (q : Bool) (hq : decide (ros x = o) = q) :
    Calls Tryd.prog 13 #[V, .slice (some ⟨w.heap.size, 0, none⟩) n n] (w.alloc (.cells cs 31)) fun e w' => e = .returned (.bool q) ∧ Below w.heap.size w w' := by
  have ho := rows_new w (o.map bare) cs n (by rw [List.length_map]; exact hn) (by unfold maxLen; omega) hcs (fun y hy => by
    obtain ⟨r, hr, rfl⟩ := List.mem_map.1 hy
    exact ⟨r, rfl, ha r hr⟩)
  refine (refSame1 V _ x (o.map bare) (w.alloc (.cells cs 31)) q (hv.below (below_one w _)) (ho.rv (by rw [ros_bare]; exact hh)) (by omega) (by rw [List.length_map]; omega) (by rw [ros_bare]; exact hq)).mono ?_
  rintro e w' ⟨he, hb⟩
  exact ⟨he, bt (below_one w _) hb⟩

theorem rdy_plain {l : List UInt8} (h : Ch.plain l) : rdy l = l := by unfold rdy; rw [Ch.plain_dL l h, Ch.plain_ln l h]
/-- A call whose argument is plain. -/
theorem ParseP (s : ByteArray) (w : World) (t : List Tk) (o : List Ro) (hs : s.size ≤ 5000) (hT : Tab w) (hp : Ch.plain (L s)) (ht : within [] (L s) = t) (ho : treeB ⟨[], []⟩ t = some o) :
    Calls Tryd.prog 23 #[.string s] w fun e w' => ∃ v y, e = .returned (.tuple #[v, .int .i64 0]) ∧ Rv w' v y ∧ ros y = o ∧ Below w.heap.size w w' := by
  refine (Parse1 s w (some o) hs hT (by rw [rdy_plain hp, ht]; exact ho)).mono ?_
  rintro e w' ⟨⟨v, y, he, hv, hy⟩, hb⟩
  exact ⟨v, y, he, hv, hy, hb⟩
theorem InP (s nm : ByteArray) (w : World) (t : List Tk) (o : List Ro) (hs : s.size ≤ 5000) (hn : nm.size ≤ 140737488351232) (hT : Tab w) (hp : Ch.plain (L s)) (ht : within (L nm) (L s) = t) (ho : treeB ⟨[], []⟩ t = some o) :
    Calls Tryd.prog 17 #[.string s, .string nm] w fun e w' => ∃ v y, e = .returned (.tuple #[v, .int .i64 0]) ∧ Rv w' v y ∧ ros y = o ∧ Below w.heap.size w w' := by
  refine (In1 s nm w (some o) hs hn hT (by rw [rdy_plain hp, ht]; exact ho)).mono ?_
  rintro e w' ⟨⟨v, y, he, hv, hy⟩, hb⟩
  exact ⟨v, y, he, hv, hy, hb⟩
theorem len_of {y : List Cw} {o : List Ro} {n : Nat} (h : ros y = o) (hn : o.length ≤ n) : y.length ≤ n := by rw [← Ro.len_ros, h]; exact hn
theorem nestedLit (n : ByteArray) (w : World) (l : List ByteArray) (k : Nat) (hk : l.length = k) (q : Bool) (hq : nestedB n l = q) (hm : k ≤ 1000) :
    Calls Tryd.prog 15 #[.string n, .slice (some ⟨w.heap.size, 0, none⟩) k k] (w.alloc (.cells (l.map sc).toArray 9)) fun e w' => e = .returned (.bool q) ∧ Below w.heap.size w w' := by
  subst hk
  refine (nested_any n _ l _ (by omega) (sv_lit w l) q hq).mono ?_
  rintro e w' ⟨he, hb⟩
  exact ⟨he, bt (below_one w _) hb⟩
theorem no_attrs {o : List Ro} (h : (o.all fun r => decide (r.attrs = [])) = true) : ∀ r ∈ o, r.attrs = [] := fun r hr => of_decide_eq_true (List.all_eq_true.1 h r hr)
theorem held_of {o : List Ro} (h : (o.all fun r => decide (-9223372036854775808 ≤ r.depth) && decide (r.depth ≤ 9223372036854775807)) = true) : Ro.Held o := fun r hr => by
  have := List.all_eq_true.1 h r hr
  rw [Bool.and_eq_true, decide_eq_true_iff, decide_eq_true_iff] at this
  exact this

set_option maxRecDepth 100000 in
set_option maxHeartbeats 4000000 in
theorem fixed_any (w : World) (hT : Tab w) : Calls Tryd.prog 14 #[] w fun e w' => e = .returned (.bool true) ∧ Below w.heap.size w w' := by
  have HT := Lib.hid hT; clear hT
  go_enter Tryd.func14, Tryd.ntmps14
  go_wp2_with fail
  refine (ParseP _ w _ _ (by decide) HT.out (by unfold Ch.plain; decide) tokA treA).mono ?_
  rintro e w1 ⟨V1, y1, rfl, v1, r1, b1⟩
  go_wp2_with fail
  refine (ParseP _ w1 _ _ (by decide) (HT.out.below b1) (by unfold Ch.plain; decide) tokB treB).mono ?_
  rintro e w2 ⟨V2, y2, rfl, v2, r2, b2⟩
  have B2 := bt b1 b2
  go_wp2_with fail
  refine (ParseP _ w2 _ _ (by decide) (HT.out.below B2) (by unfold Ch.plain; decide) tokC treC).mono ?_
  rintro e w3 ⟨V3, y3, rfl, v3, r3, b3⟩
  have B3 := bt B2 b3
  go_wp2_with fail
  refine (ParseP _ w3 _ _ (by decide) (HT.out.below B3) (by unfold Ch.plain; decide) tokD treD).mono ?_
  rintro e w4 ⟨V4, y4, rfl, v4, r4, b4⟩
  have B4 := bt B3 b4
  go_wp2_with fail
  refine (InP _ _ w4 _ _ (by decide) (by decide) (HT.out.below B4) (by unfold Ch.plain; decide) tokE treE).mono ?_
  rintro e w5 ⟨V5, y5, rfl, v5, r5, b5⟩
  have B5 := bt B4 b5
  have s1 := v1.below (bt b2 (bt b3 (bt b4 b5)))
  have s2 := v2.below (bt b3 (bt b4 b5))
  have s3 := v3.below (bt b4 b5)
  have s4 := v4.below b5
  have S1 := Lib.hid s1; have S2 := Lib.hid s2; have S3 := Lib.hid s3; have S4 := Lib.hid s4; have S5 := Lib.hid v5; have BB5 := Lib.hid B5
  have R1 := Lib.hid r1; have R2 := Lib.hid r2; have R3 := Lib.hid r3; have R4 := Lib.hid r4; have R5 := Lib.hid r5
  clear v1 v2 v3 v4 v5 s1 s2 s3 s4 b1 b2 b3 b4 b5 B2 B3 B4 B5 r1 r2 r3 r4 r5
  go_wp2_with fail
  refine (el_any _ _ w5).mono ?_
  rintro e w6 ⟨rfl, b⟩
  have HB := Lib.hid b; clear b
  go_wp2_with fail
  refine (text_any _ _ w6).mono ?_
  rintro e w7 ⟨rfl, b⟩
  replace HB := Lib.hid (bt HB.out b); clear b
  go_wp2_with fail
  refine (el_any _ _ w7).mono ?_
  rintro e w8 ⟨rfl, b⟩
  replace HB := Lib.hid (bt HB.out b); clear b
  go_wp2_with fail
  refine (text_any _ _ w8).mono ?_
  rintro e w9 ⟨rfl, b⟩
  replace HB := Lib.hid (bt HB.out b); clear b
  go_wp2_with fail
  refine (sameR w9 V1 y1 [rE 0 [112], rT 1 [97], rE 0 [112], rT 1 [98]] _ 4 (S1.out.below HB.out) (len_of R1.out (by decide)) (by decide) (by decide) (no_attrs (by decide)) (held_of (by decide)) (by rfl) true (by rw [R1.out]; simp)).mono ?_
  rintro e w10 ⟨rfl, b⟩
  replace HB := Lib.hid (bt HB.out b); clear b
  go_wp2_with fail
  refine (el_any _ _ w10).mono ?_
  rintro e w11 ⟨rfl, b⟩
  replace HB := Lib.hid (bt HB.out b); clear b
  go_wp2_with fail
  refine (el_any _ _ w11).mono ?_
  rintro e w12 ⟨rfl, b⟩
  replace HB := Lib.hid (bt HB.out b); clear b
  go_wp2_with fail
  refine (text_any _ _ w12).mono ?_
  rintro e w13 ⟨rfl, b⟩
  replace HB := Lib.hid (bt HB.out b); clear b
  go_wp2_with fail
  refine (el_any _ _ w13).mono ?_
  rintro e w14 ⟨rfl, b⟩
  replace HB := Lib.hid (bt HB.out b); clear b
  go_wp2_with fail
  refine (text_any _ _ w14).mono ?_
  rintro e w15 ⟨rfl, b⟩
  replace HB := Lib.hid (bt HB.out b); clear b
  go_wp2_with fail
  refine (text_any _ _ w15).mono ?_
  rintro e w16 ⟨rfl, b⟩
  replace HB := Lib.hid (bt HB.out b); clear b
  go_wp2_with fail
  refine (sameR w16 V2 y2 [rE 0 [117, 108], rE 1 [108, 105], rT 2 [97], rE 1 [108, 105], rT 2 [98], rT 0 [99]] _ 6 (S2.out.below HB.out) (len_of R2.out (by decide)) (by decide) (by decide) (no_attrs (by decide)) (held_of (by decide)) (by rfl) true (by rw [R2.out]; simp)).mono ?_
  rintro e w17 ⟨rfl, b⟩
  replace HB := Lib.hid (bt HB.out b); clear b
  go_wp2_with fail
  refine (el_any _ _ w17).mono ?_
  rintro e w18 ⟨rfl, b⟩
  replace HB := Lib.hid (bt HB.out b); clear b
  go_wp2_with fail
  refine (sameR w18 V3 y3 [rE 0 [112]] _ 1 (S3.out.below HB.out) (len_of R3.out (by decide)) (by decide) (by decide) (no_attrs (by decide)) (held_of (by decide)) (by rfl) true (by rw [R3.out]; simp)).mono ?_
  rintro e w19 ⟨rfl, b⟩
  replace HB := Lib.hid (bt HB.out b); clear b
  go_wp2_with fail
  refine (text_any _ _ w19).mono ?_
  rintro e w20 ⟨rfl, b⟩
  replace HB := Lib.hid (bt HB.out b); clear b
  go_wp2_with fail
  refine (sameR w20 V4 y4 [rT 0 [97, 99]] _ 1 (S4.out.below HB.out) (len_of R4.out (by decide)) (by decide) (by decide) (no_attrs (by decide)) (held_of (by decide)) (by rfl) true (by rw [R4.out]; simp)).mono ?_
  rintro e w21 ⟨rfl, b⟩
  replace HB := Lib.hid (bt HB.out b); clear b
  go_wp2_with fail
  refine (text_any _ _ w21).mono ?_
  rintro e w22 ⟨rfl, b⟩
  replace HB := Lib.hid (bt HB.out b); clear b
  go_wp2_with fail
  refine (sameR w22 V5 y5 [rT 0 [97, 60, 98, 62]] _ 1 (S5.out.below HB.out) (len_of R5.out (by decide)) (by decide) (by decide) (no_attrs (by decide)) (held_of (by decide)) (by rfl) true (by rw [R5.out]; simp)).mono ?_
  rintro e w23 ⟨rfl, b⟩
  replace HB := Lib.hid (bt HB.out b); clear b
  go_wp2_with fail
  refine (nestedLit n_p w23 [n_p, ⟨#[98]⟩] 2 rfl false nesA (by decide)).mono ?_
  rintro e w24 ⟨rfl, b⟩
  replace HB := Lib.hid (bt HB.out b); clear b
  go_wp2_with fail
  refine (nestedLit n_p w24 [n_p, n_td] 2 rfl true nesB (by decide)).mono ?_
  rintro e w25 ⟨rfl, b⟩
  replace HB := Lib.hid (bt HB.out b); clear b
  go_wp2
  go_ret
  exact ⟨rfl, bt BB5.out HB.out⟩

end Go.Proofs.YtoijeljjehjfjaaDoor.Bu
