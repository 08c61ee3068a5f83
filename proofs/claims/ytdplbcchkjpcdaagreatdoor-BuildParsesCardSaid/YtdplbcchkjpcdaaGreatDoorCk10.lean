/-
  Plain mathematics: a list of bytes divided from its beginning on, and what is told of that: decoded, right, how many, the first ones, one end of lines; and what holds of these for every list.
  Walks of stage 1: chars.Count, chars.startsReplaced, chars.Sample: each returns what the plain function of CharsSpec says, for every string.
  Walks of stage 1: chars.Decode, chars.Lines, chars.Ready: each returns the string that the plain function of CharsSpec says, where that string and the argument have at most 2^47 bytes.
  Walks of stage 1: chars.Lines, chars.Ready: each returns the string that the plain function of CharsSpec says, where that string and the argument have at most 2^47 bytes.
  Walks of stage 7: In, Parse.
  Tokens of documents that are written out: the same functions by steps that are counted, so that they can be reckoned.
  Stage 7, in plain words: trees of given bytes, reckoned; nothing of the program.
  Stage 3: where the package's table reads as its text lays it, the walks' table is there; the door's own heap is such a world.
  Stage 7: the calls whose answers the document fixes.
  Tokens that are written, and cut again: lists of tokens as a document can have them (Good), what they come back as (fin).
  What each token has, in plain words.
  What a list of tokens, written, is cut as; the tokens of any document are such a list.
  Stage 7, in plain words: bytes of tags that close nothing, as tokens and as trees; nothing of the program.
  Stage 7, in plain words: text alone, within an element that has text alone, and behind one that is open; many elements; nothing of the program.
  Stage 7, in plain words: a tag that begins has three bytes at least, so few bytes are few elements; nothing of the program.
  Stage 7, in plain words: a tag that begins has three bytes below 128 at least, and no byte that is made right has any; nothing of the program.
  Walks of stage 5: names.inElement, inAttr, every, Attr, Right.
  Small laws for the statements' own texts: min of a length, a mask of an int, a cut's size. For every stage from 5 on.
  Stage 7: BuildParts: documents, one behind the other, are each as it is alone.
  Stage 7: walks of the reference: joined.
  Walks of stage 6: boltingref06.Same.
  Stage 6: slices that read as tokens; the calls whose answers the document fixes.
-/
import Derived.Test.YtdplbcchkjpcdaaGreatDoorCk09
import Derived.Test.YtdplbcchkjpcdaaGreatDoorRows
import Derived.WalkKit
import Derived.WalkSpells
import Derived.Lib.OthersKept
import Derived.Lib.Hide
import Derived.Lib.Strings
import Derived.OpenShut
import Derived.WalkLawsBesides
import Derived.Lib.AppendStr
import Derived.WalkSmall
import Derived.Laws.IdiomStrings
import Derived.Test.YtdplbcchkjpcdaaGreatDoorCk07
import Derived.Test.YtdplbcchkjpcdaaGreatDoorCk02
import Derived.Test.YtdplbcchkjpcdaaGreatDoorCk04
import Derived.ProofKit
import Derived.LaidMore
import Derived.Stop.Joined
import Derived.Test.YtdplbcchkjpcdaaGreatDoorCk06
import Derived.Test.YtdplbcchkjpcdaaGreatDoorCk03
import Derived.Test.YtdplbcchkjpcdaaGreatDoorCk01
import Derived.Deep.OwnRows
import Derived.Test.YtdplbcchkjpcdaaGreatDoorCk08
import Derived.Deep.CutRange
import Derived.Deep.RegionHeld3
namespace Go.Proofs.YtdplbcchkjpcdaaGreatDoor.Ch
set_option linter.unusedSimpArgs false
set_option linter.unusedVariables false

theorem ind {P : List UInt8 → Prop} (h0 : P []) (hg : ∀ c r t, Good c r → P t → P (c ++ t)) (hb : ∀ a t, dec (a :: t) = (0xFFFD, 1) → sz (a :: t) = 0 → P t → P (a :: t)) : ∀ l, P l := by
  have key : ∀ n l, l.length ≤ n → P l := by
    intro n
    induction n with
    | zero => intro l hl; have : l = [] := List.eq_nil_of_length_eq_zero (by omega); subst this; exact h0
    | succ n ih =>
      intro l hl
      by_cases hn : l = []
      · subst hn; exact h0
      · rcases step l hn with ⟨c, r, t, rfl, G⟩ | ⟨a, t, rfl, hd, hs⟩
        · have := G.pos; simp at hl; exact hg c r t G (ih t (by omega))
        · simp at hl; exact hb a t hd hs (ih t (by omega))
  exact fun l => key l.length l (Nat.le_refl _)

def F : List UInt8 := [0xEF, 0xBF, 0xBD]

/-- The division: of each part its rune and its bytes. -/
def pieces : Nat → List UInt8 → List (Nat × List UInt8)
  | 0, _ => []
  | _ + 1, [] => []
  | n + 1, a :: t => ((dec (a :: t)).1, (a :: t).take (dec (a :: t)).2) :: pieces n ((a :: t).drop (dec (a :: t)).2)

def pcs (l : List UInt8) : List (Nat × List UInt8) := pieces l.length l

theorem dec_pos (l : List UInt8) (h : l ≠ []) : 1 ≤ (dec l).2 := by
  rcases step l h with ⟨c, r, t, rfl, G⟩ | ⟨a, t, rfl, hd, hs⟩
  · rw [G.dec]; exact G.pos
  · rw [hd]; exact Nat.le_refl _

theorem pieces_more : ∀ n m l, l.length ≤ n → n ≤ m → pieces m l = pieces n l := by
  intro n
  induction n with
  | zero =>
    intro m l hl _
    have : l = [] := List.eq_nil_of_length_eq_zero (by omega)
    subst this
    cases m <;> rfl
  | succ n ih =>
    intro m l hl hm
    obtain ⟨m, rfl⟩ : ∃ k, m = k + 1 := ⟨m - 1, by omega⟩
    cases l with
    | nil => rfl
    | cons a t =>
      have := dec_pos (a :: t) (by simp)
      simp only [pieces]
      rw [ih m _ (by simp only [List.length_drop]; simp at hl ⊢; omega) (by omega)]

theorem pcs_step (l : List UInt8) (h : l ≠ []) : pcs l = ((dec l).1, l.take (dec l).2) :: pcs (l.drop (dec l).2) := by
  obtain ⟨a, t, rfl⟩ := List.exists_cons_of_ne_nil h
  have := dec_pos (a :: t) (by simp)
  show pieces (t.length + 1) (a :: t) = _
  rw [pieces]
  congr 1
  exact pieces_more _ _ _ (Nat.le_refl _) (by simp only [List.length_drop, List.length_cons]; omega)

theorem pcs_good {c : List UInt8} {r : Nat} (G : Good c r) (t : List UInt8) : pcs (c ++ t) = (r, c) :: pcs t := by
  have hne : c ++ t ≠ [] := by have := G.pos; intro e; simp at e; simp [e.1] at this
  rw [pcs_step _ hne, G.dec]
  simp

theorem pcs_bad {a : UInt8} {t : List UInt8} (hd : dec (a :: t) = (0xFFFD, 1)) : pcs (a :: t) = (0xFFFD, [a]) :: pcs t := by
  rw [pcs_step _ (by simp), hd]
  simp

/-- Decoded. -/
def encR (r : Nat) : List UInt8 := if r = 0 then F else (Utf8.encode (r : Int)).data.toList
theorem encR_zero : encR 0 = F := if_pos rfl
theorem encR_pos {r : Nat} (h : r ≠ 0) : encR r = (Utf8.encode (r : Int)).data.toList := if_neg h
theorem encR_good {c : List UInt8} {r : Nat} (G : Good c r) : encR r = if r = 0 then F else c := by
  by_cases h : r = 0
  · rw [if_pos h, h, encR_zero]
  · rw [if_neg h, encR_pos h, G.enc]
theorem encR_bad : encR 0xFFFD = F := by
  rw [encR_pos (by decide), F_good.enc]; rfl
def encP (p : Nat × List UInt8) : List UInt8 := encR p.1
def dL (l : List UInt8) : List UInt8 := (pcs l).flatMap encP

theorem dL_nil : dL [] = [] := rfl
theorem dL_step (l : List UInt8) (h : l ≠ []) : dL l = encR (dec l).1 ++ dL (l.drop (dec l).2) := by
  unfold dL; rw [pcs_step l h, List.flatMap_cons]; rfl
theorem dL_good {c : List UInt8} {r : Nat} (G : Good c r) (t : List UInt8) : dL (c ++ t) = (if r = 0 then F else c) ++ dL t := by
  unfold dL
  rw [pcs_good G, List.flatMap_cons, encP, encR_good G]
theorem dL_bad {a : UInt8} {t : List UInt8} (hd : dec (a :: t) = (0xFFFD, 1)) : dL (a :: t) = F ++ dL t := by
  unfold dL
  rw [pcs_bad hd, List.flatMap_cons, encP, encR_bad]
/-- Right. -/
def okP (p : Nat × List UInt8) : Bool := !(p.1 == 0xFFFD) || p.2 == F
def rL (l : List UInt8) : Bool := (pcs l).all okP
theorem Good.fffd {c : List UInt8} (G : Good c 0xFFFD) : c = F := by rw [← G.enc]; exact F_good.enc
theorem okP_good {c : List UInt8} {r : Nat} (G : Good c r) : okP (r, c) = true := by
  unfold okP
  by_cases h : r = 0xFFFD
  · subst h; rw [G.fffd]; rfl
  · have : (r == 0xFFFD) = false := by simpa using h
    simp only [this]; rfl
theorem rL_good {c : List UInt8} {r : Nat} (G : Good c r) (t : List UInt8) : rL (c ++ t) = rL t := by
  unfold rL
  rw [pcs_good G, List.all_cons, okP_good G, Bool.true_and]
theorem rL_bad {a : UInt8} {t : List UInt8} (hd : dec (a :: t) = (0xFFFD, 1)) : rL (a :: t) = false := by
  unfold rL
  rw [pcs_bad hd, List.all_cons]
  simp [okP, F]

/-- How many. -/
def cL (l : List UInt8) : Nat := (pcs l).length
theorem cL_nil : cL [] = 0 := rfl
theorem cL_good {c : List UInt8} {r : Nat} (G : Good c r) (t : List UInt8) : cL (c ++ t) = 1 + cL t := by
  unfold cL; rw [pcs_good G, List.length_cons]; omega
/-- One end of lines: p: the byte ahead was a 13. -/
def ln : Bool → List UInt8 → List UInt8
  | _, [] => []
  | p, c :: t => if c = 13 then 10 :: ln true t else if c = 10 ∧ p = true then ln false t else c :: ln false t

theorem ln_13 (p : Bool) (t : List UInt8) : ln p (13 :: t) = 10 :: ln true t := by simp [ln]
theorem ln_10 (t : List UInt8) : ln true (10 :: t) = ln false t := by simp [ln]
theorem ln_other (p : Bool) (c : UInt8) (t : List UInt8) (h : c ≠ 13) (h' : ¬ (c = 10 ∧ p = true)) : ln p (c :: t) = c :: ln false t := by simp only [ln, h, h', if_false]
theorem ln_two (t : List UInt8) : ln false (13 :: 10 :: t) = 10 :: ln false t := by simp [ln]
theorem ln_one (t : List UInt8) (h : ∀ u, t ≠ 10 :: u) : ln true t = ln false t := by
  cases t with
  | nil => rfl
  | cons c t =>
    have : c ≠ 10 := fun e => h t (by rw [e])
    simp [ln, this]

/-! ### What holds -/

theorem len_dL (l : List UInt8) : (dL l).length ≤ 3 * l.length := by
  refine ind (P := fun l => (dL l).length ≤ 3 * l.length) (by simp [dL_nil]) ?_ ?_ l
  · intro c r t G ih
    have := G.pos
    rw [dL_good G, List.length_append, List.length_append]
    by_cases h : r = 0
    · rw [if_pos h]; simp only [F, List.length_cons, List.length_nil]; omega
    · rw [if_neg h]; omega
  · intro a t hd _ ih
    rw [dL_bad hd, List.length_append]; simp only [F, List.length_cons, List.length_nil]; omega

theorem ln_len (p : Bool) (l : List UInt8) : (ln p l).length ≤ l.length := by
  induction l generalizing p with
  | nil => simp [ln]
  | cons c t ih =>
    have h1 := ih true; have h2 := ih false
    simp only [ln]
    split
    · simp; omega
    · split
      · simp; omega
      · simp; omega

theorem ln_id (l : List UInt8) (h : (13 : UInt8) ∉ l) : ln false l = l := by
  induction l with
  | nil => rfl
  | cons c t ih =>
    simp at h
    rw [ln_other _ _ _ (Ne.symm h.1) (by simp), ih h.2]

theorem dL_id (l : List UInt8) : rL l = true → (0 : UInt8) ∉ l → dL l = l := by
  refine ind (P := fun l => rL l = true → (0 : UInt8) ∉ l → dL l = l) (fun _ _ => rfl) ?_ ?_ l
  · intro c r t G ih h hz
    rw [rL_good G] at h
    simp at hz
    rw [dL_good G, ih h hz.2, if_neg]
    intro e
    rw [G.zero.1 e] at hz
    simp at hz
  · intro a t hd _ ih h
    rw [rL_bad hd] at h; exact absurd h (by simp)

theorem joins (a b : List UInt8) : rL a = true → rL (a ++ b) = rL b ∧ dL (a ++ b) = dL a ++ dL b ∧ cL (a ++ b) = cL a + cL b := by
  refine ind (P := fun a => rL a = true → rL (a ++ b) = rL b ∧ dL (a ++ b) = dL a ++ dL b ∧ cL (a ++ b) = cL a + cL b) (fun _ => ⟨rfl, by simp [dL_nil], by simp [cL_nil]⟩) ?_ ?_ a
  · intro c r t G ih h
    rw [rL_good G] at h
    obtain ⟨h1, h2, h3⟩ := ih h
    rw [List.append_assoc]
    refine ⟨by rw [rL_good G, h1], by rw [dL_good G, dL_good G, h2, List.append_assoc], by rw [cL_good G, cL_good G, h3]; omega⟩
  · intro a t hd _ ih h
    rw [rL_bad hd] at h; exact absurd h (by simp)

theorem dec_le (l : List UInt8) (h : l ≠ []) : (dec l).2 ≤ l.length := by
  rcases step l h with ⟨c, r, t, rfl, G⟩ | ⟨a, t, rfl, hd, hs⟩
  · rw [G.dec]; simp
  · rw [hd]; simp

theorem sz_bad (l : List UInt8) (h : l ≠ []) (hs : sz l = 0) : dec l = (0xFFFD, 1) ∧ ∃ a t, l = a :: t := by
  rcases step l h with ⟨c, r, t, rfl, G⟩ | ⟨a, t, rfl, hd, _⟩
  · rw [G.sz] at hs; have := G.pos; omega
  · exact ⟨hd, a, t, rfl⟩
theorem sz_good (l : List UInt8) (h : l ≠ []) (hs : sz l ≠ 0) : ∃ c r t, l = c ++ t ∧ Good c r ∧ sz l = c.length := by
  rcases step l h with ⟨c, r, t, rfl, G⟩ | ⟨a, t, rfl, _, hz⟩
  · exact ⟨c, r, t, rfl, G, G.sz t⟩
  · exact absurd hz hs
theorem sz_dec (l : List UInt8) (h : l ≠ []) : (dec l).2 = max 1 (sz l) := by
  by_cases hs : sz l = 0
  · rw [(sz_bad l h hs).1, hs]; rfl
  · obtain ⟨c, r, t, rfl, G, e⟩ := sz_good l h hs
    rw [G.dec, G.sz]; have := G.pos; simp only; omega
theorem sz_le (l : List UInt8) (h : l ≠ []) : max 1 (sz l) ≤ l.length := by rw [← sz_dec l h]; exact dec_le l h
theorem dL_sz0 (l : List UInt8) (h : l ≠ []) (hs : sz l = 0) : dL l = F ++ dL (l.drop 1) := by
  obtain ⟨hd, a, t, rfl⟩ := sz_bad l h hs
  rw [dL_bad hd]; rfl
theorem dL_zero (l : List UInt8) (h : l ≠ []) (hz : at' l 0 = 0) : dL l = F ++ dL (l.drop 1) := by
  obtain ⟨a, t, rfl⟩ := List.exists_cons_of_ne_nil h
  have ha : a.toNat = 0 := hz
  have G := good1 a (by omega)
  have := dL_good G t
  rw [if_pos ha] at this
  exact this
theorem dL_szp (l : List UInt8) (h : l ≠ []) (hs : sz l ≠ 0) (hz : at' l 0 ≠ 0) : dL l = l.take (sz l) ++ dL (l.drop (sz l)) := by
  obtain ⟨c, r, t, rfl, G, e⟩ := sz_good l h hs
  rw [G.sz, List.take_left, List.drop_left, dL_good G, if_neg]
  intro e2
  apply hz
  rw [G.zero.1 e2]; rfl

/-- Bytes below 128, but 0 and 13. -/
def plain (l : List UInt8) : Prop := ∀ x ∈ l, x.toNat < 128 ∧ x ≠ 0 ∧ x ≠ 13

theorem plain_rL (l : List UInt8) (h : plain l) : rL l = true := by
  induction l with
  | nil => rfl
  | cons a t ih => rw [show a :: t = [a] ++ t from rfl, rL_good (good1 a (h a (by simp)).1), ih (fun x hx => h x (by simp [hx]))]
theorem plain_dL (l : List UInt8) (h : plain l) : dL l = l := dL_id l (plain_rL l h) (fun e => (h 0 e).2.1 rfl)
theorem plain_ln (l : List UInt8) (h : plain l) : ln false l = l := ln_id l (fun e => (h 13 e).2.2 rfl)

end Go.Proofs.YtdplbcchkjpcdaaGreatDoor.Ch

namespace Go.Proofs.YtdplbcchkjpcdaaGreatDoor.Ch
set_option linter.unusedSimpArgs false
set_option linter.unusedVariables false
open Go.RowKit
abbrev L (s : ByteArray) : List UInt8 := s.data.toList
theorem size_L (s : ByteArray) : (L s).length = s.size := by rw [Array.length_toList]; rfl
theorem drop_ne (s : ByteArray) (k : Nat) (h : k < s.size) : (L s).drop k ≠ [] := by
  intro e
  have := congrArg List.length e
  rw [List.length_drop, size_L] at this
  simp at this; omega
theorem drop_nil (s : ByteArray) (k : Nat) (h : ¬ k < s.size) : (L s).drop k = [] := List.drop_eq_nil_of_le (by rw [size_L]; omega)

theorem ret_int {k : IntKind} {a b : Int} (h : a = b) : Ending.returned (.int k a) = .returned (.int k b) := by rw [h]
theorem ret_bool {a b : Bool} (h : a = b) : Ending.returned (.bool a) = .returned (.bool b) := by rw [h]
theorem ret_str {a b : ByteArray} (h : a = b) : Ending.returned (.string a) = .returned (.string b) := by rw [h]

theorem below_iter (w : World) (s : ByteArray) (p : Nat) : Below w.heap.size w (w.iter s p) :=
  (Below.refl _ _).alloc (Nat.le_refl _) _

/-- A string of these bytes. -/
def B (l : List UInt8) : ByteArray := ⟨l.toArray⟩
theorem L_B (l : List UInt8) : L (B l) = l := by simp [B]
theorem toList_B (l : List UInt8) : (B l).toList = l := by unfold B; exact ByteArray.toList_mk l
theorem size_B (l : List UInt8) : (B l).size = l.length := by rw [← size_L, L_B]
theorem B_of {s : ByteArray} {l : List UInt8} (h : L s = l) : s = B l := WideShapes.bytes_inj (h.trans (L_B l).symm)

theorem L_extract (s : ByteArray) (a b : Nat) : L (s.extract a b) = ((L s).drop a).take (b - a) := Lib.extract_data s a b
theorem L_end (s : ByteArray) (a : Nat) : L (s.extract a s.size) = (L s).drop a := by
  rw [L_extract, List.take_of_length_le]
  rw [List.length_drop, size_L]
  exact Nat.le_refl _
theorem size_extract (s : ByteArray) (a b : Nat) : (s.extract a b).size ≤ s.size := by
  rw [← size_L, ← size_L, L_extract, List.length_take, List.length_drop]; omega

end Go.Proofs.YtdplbcchkjpcdaaGreatDoor.Ch

namespace Go.Proofs.YtdplbcchkjpcdaaGreatDoor.Ch
set_option maxRecDepth 100000
set_option linter.unusedSimpArgs false
set_option linter.unusedVariables false
open Go.RowKit
def bc (b : UInt8) : Value := .int .u8 b.toNat
/-- v is a slice of bytes of the call's own that holds l. -/
def Own (N : Nat) (w : World) (v : Value) (l : List UInt8) : Prop := w.ownsRow N 5 1 v l.length (l.map bc)

theorem info_u8 : (Tryz.prog.info? 5).map (fun i => (i.zero, i.size, i.bytes)) = some (some (.int .u8 0), 1, 1) := by kernel_rfl

theorem Own.iterAt {N : Nat} {w : World} {v : Value} {l : List UInt8} (h : Own N w v l) {k : Nat} {s : ByteArray} {pos : Nat} (hk : w.heap[k]? = some (.stringIter s pos)) (pos' : Nat) : Own N (w.iterAt k s pos') v l := by
  refine ⟨h.1, ?_⟩
  rcases h.2 with hn | ⟨g, cap, cur, hv, hb, hg, rest⟩
  · exact .inl hn
  · have hkg : g ≠ k := by
      intro e1
      rw [e1, hk] at hg
      cases hg
    exact .inr ⟨g, cap, cur, hv, hb, (Lib.iterAt_other w k g s pos' hkg).trans hg, rest⟩

theorem Own.iterKept {N : Nat} {w w' : World} {v : Value} {l : List UInt8} (h : Own N w v l) (hg : w.grownBy w' v.ownBlock) {k : Nat} {s : ByteArray} {pos : Nat} (hk : w.heap[k]? = some (.stringIter s pos)) : w'.heap[k]? = some (.stringIter s pos) := by
  have hlt : k < w.heap.size := (Array.getElem?_eq_some_iff.1 hk).1
  rw [hg.block k hlt, hk]
  intro e
  rcases h.2 with ⟨hv, _⟩ | ⟨g, cap, cur, hv, hb, hgg, rest⟩
  · rw [hv] at e; simp [Value.ownBlock] at e
  · rw [hv] at e; simp [Value.ownBlock] at e
    rw [← e, hk] at hgg; cases hgg

theorem Own.below {N : Nat} {w0 w w' : World} {v : Value} {l : List UInt8} (h : Own N w v l) (hg : w.grownBy w' v.ownBlock) (hb : Below N w0 w) (hN : N ≤ w.heap.size) : Below N w0 w' :=
  hb.grown hg hN fun k hk => (h.lt k hk).1

theorem Own.string {N : Nat} {w : World} {v : Value} {l : List UInt8} (h : Own N w v l) : (convert 74 9 v).run Tryz.prog w = .ok (.string (B l)) w := by
  rcases h.2 with ⟨hv, hl⟩ | ⟨g, cap, cur, hv, hb, hgg, rest⟩
  · have : l = [] := List.eq_nil_of_length_eq_zero hl
    subst this hv
    rw [run_convert_bytes_string w _ _ _ none 0 0 Tryz.underlying74 Tryz.underlying5 Tryz.underlying9]
    rfl
  · subst hv
    exact run_convert_bytes_back w _ _ _ ⟨g, 0, none⟩ cap l Tryz.underlying74 Tryz.underlying5 Tryz.underlying9 fun j hj => World.ownsRow.cells h rfl j _ (by simp [bc, hj])

theorem strCells_L (s : ByteArray) : Lib.strCells s = (L s).map bc := rfl

theorem Own.appended {N : Nat} {w : World} {v : Value} {l m : List UInt8} {n : Nat} (h : w.ownsRow N 5 1 v n (l.map bc ++ m.map bc)) (hn : n = l.length + m.length) : Own N w v (l ++ m) := by
  unfold Own
  rw [List.map_append, List.length_append, ← hn]
  exact h

theorem L_def (s : ByteArray) : L s = s.data.toList := rfl
theorem enc_F : L (Utf8.encode 65533) = F :=
  (L_def _).trans ((congrArg (fun z : Int => (Utf8.encode z).data.toList) (show (65533 : Int) = ((0xFFFD : Nat) : Int) from rfl)).trans F_good.enc)
theorem enc_r (r : Nat) (h : r ≠ 0) : L (Utf8.encode r) = encR r := (L_def _).trans (encR_pos h).symm

set_option maxHeartbeats 1000000 in
theorem decode_any (s : ByteArray) (w : World) (hs : s.size ≤ 140737488355328) (hd : (dL (L s)).length ≤ 140737488355328) :
    Calls Tryz.prog 27 #[.string s] w fun e w' => e = .returned (.string (B (dL (L s)))) ∧ Below w.heap.size w w' := by
  obtain ⟨i0, hi, hz0, hz1, hz2⟩ := info_parts info_u8
  go_enter Tryz.func27, Tryz.ntmps27
  go_wp2_with (at_make; refine wpList_make_own _ rfl (.const (.int .i64 0)) (.tmp 7) 74 rfl w.heap.size 5 i0 (.int .u8 0) 1 Tryz.underlying74 hi hz0 hz1 .i64 .i64 _ s.size rfl rfl rfl (by rw [hz2]; omega) (by unfold maxLen; omega) (Nat.le_refl _) ?_; intro w1 hown hgrow)
  have hk0 : (w1.iter s 0).heap[w1.heap.size]? = some (.stringIter s 0) := World.iter_heap w1 s 0
  have hb0 : Below w.heap.size w (w1.iter s 0) := ((Below.refl w.heap.size w).grown hgrow (Nat.le_refl _) (by simp)).alloc hgrow.size _
  have ho0 : Own w.heap.size (w1.iter s 0) (.slice (some ⟨w.heap.size, 0, none⟩) 0 s.size) [] := World.ownsRow.alloc hown _
  have hsz1 := hgrow.size
  clear hown hgrow
  have HK0 := Lib.hid hk0; clear hk0
  go_loopw [3, 5] (fun v _ wr => ∃ (pos : Nat) (acc : List UInt8), wr.heap[w1.heap.size]? = some (.stringIter s pos) ∧ Own w.heap.size wr v acc ∧ acc ++ dL ((L s).drop pos) = dL (L s) ∧ Below w.heap.size w wr) (fun _ _ wr => s.size - wr.iterPos w1.heap.size)
  case atStart => exact ⟨0, [], HK0.out, ho0, by simp, hb0⟩
  case round =>
    clear ho0 hb0 HK0
    obtain ⟨pos, acc, hk, hown, hc, hbel⟩ := hrel
    have hpos : wr.iterPos w1.heap.size = pos := iterPos_of hk
    have HC := Lib.hid hc; clear hc
    have HP := Lib.hid hpos; clear hpos
    by_cases hp : pos < s.size
    · have hnx : ∀ ty, (Instr.next (.pointer (some ⟨w1.heap.size, 0, none⟩)) true ty).run Tryz.prog wr = _ := fun ty => Lib.run_next_any_at wr _ s pos ty hk hp
      have hdp := dec_pos _ (drop_ne s pos hp)
      have hst := dL_step _ (drop_ne s pos hp)
      rw [List.drop_drop] at hst
      rw [← decode_eq] at hst hdp
      have hk' := Lib.iterAt_heap wr w1.heap.size s pos (pos + (Utf8.decode s pos).2) hk
      have hown' := hown.iterAt hk (pos + (Utf8.decode s pos).2)
      have hbel' := Lib.below_iterAt hbel (k := w1.heap.size) hsz1 s (pos + (Utf8.decode s pos).2)
      have hN : w.heap.size ≤ (wr.iterAt w1.heap.size s (pos + (Utf8.decode s pos).2)).heap.size := hbel'.size
      have HS := Lib.hid hst; clear hst
      have HK := Lib.hid hk'; clear hk hk'
      clear hown hbel
      by_cases hr : (Utf8.decode s pos).1 = 0
      · have hrb : (((Utf8.decode s pos).1 : Int) == 0) = true := by rw [hr]; rfl
        have HR := Lib.hid hr; clear hr
        have he : L (Utf8.encode 65533) = F := enc_F
        have hbd : acc.length + (Utf8.encode 65533).size ≤ 140737488355328 := by
          have h1 := congrArg List.length HC.out
          rw [HS.out, HR.out, encR_zero, List.length_append, List.length_append] at h1
          rw [← size_L, he]; omega
        have HE := Lib.hid he; clear he
        go_wp2_with (at_builtin; refine Lib.wpList_append_own_string _ rfl (.tmp 16) (.tmp 18) 74 9 rfl w.heap.size 5 i0 Tryz.underlying74 Tryz.underlying9 hi hz0 hz1 hz2 _ acc.length (acc.map bc) rfl hown' _ rfl (by unfold maxLen; omega) hbd hN ?_; intro v2 w2 hown2 hgrow2 _)
        go_roundw
        case rel =>
          refine ⟨pos + (Utf8.decode s pos).2, acc ++ F, hown'.iterKept hgrow2 HK.out, ?_, ?_, hown'.below hgrow2 hbel' hN⟩
          · rw [strCells_L, HE.out] at hown2
            exact Own.appended hown2 (by rw [← size_L, HE.out])
          · rw [← HC.out, HS.out, List.append_assoc]; rw [HR.out, encR_zero]
        case measure =>
          rw [iterPos_of (hown'.iterKept hgrow2 HK.out), HP.out]
          omega
      · have hrb : (((Utf8.decode s pos).1 : Int) == 0) = false := by simpa using fun h => hr (by omega)
        have he : L (Utf8.encode (Utf8.decode s pos).1) = encR (Utf8.decode s pos).1 := enc_r _ hr
        clear hr
        have hbd : acc.length + (Utf8.encode (Utf8.decode s pos).1).size ≤ 140737488355328 := by
          have h1 := congrArg List.length HC.out
          rw [HS.out, List.length_append, List.length_append] at h1
          rw [← size_L, he]; omega
        have HE := Lib.hid he; clear he
        go_wp2_with (at_builtin; refine Lib.wpList_append_own_string _ rfl (.tmp 16) (.tmp 18) 74 9 rfl w.heap.size 5 i0 Tryz.underlying74 Tryz.underlying9 hi hz0 hz1 hz2 _ acc.length (acc.map bc) rfl hown' _ rfl (by unfold maxLen; omega) hbd hN ?_; intro v2 w2 hown2 hgrow2 _)
        go_roundw
        case rel =>
          refine ⟨pos + (Utf8.decode s pos).2, acc ++ encR (Utf8.decode s pos).1, hown'.iterKept hgrow2 HK.out, ?_, ?_, hown'.below hgrow2 hbel' hN⟩
          · rw [strCells_L, HE.out] at hown2
            exact Own.appended hown2 (by rw [← size_L, HE.out])
          · rw [← HC.out, HS.out, List.append_assoc]
        case measure =>
          rw [iterPos_of (hown'.iterKept hgrow2 HK.out), HP.out]
          omega
    · have hnx : ∀ ty, (Instr.next (.pointer (some ⟨w1.heap.size, 0, none⟩)) true ty).run Tryz.prog wr = _ := fun ty => Lib.run_next_end_at wr _ s pos ty hk hp
      have hcv := hown.string
      clear hk
      go_wp2
      go_ret
      refine ⟨ret_str ?_, hbel⟩
      have h1 := HC.out
      rw [drop_nil s pos hp, dL_nil, List.append_nil] at h1
      rw [h1]

end Go.Proofs.YtdplbcchkjpcdaaGreatDoor.Ch

namespace Go.Proofs.YtdplbcchkjpcdaaGreatDoor.Ch
set_option maxRecDepth 100000
set_option linter.unusedSimpArgs false
set_option linter.unusedVariables false
open Go.RowKit
theorem drop_cons (s : ByteArray) (k : Nat) (h : k < s.size) : (L s).drop k = s[k] :: (L s).drop (k + 1) := by
  rw [List.drop_eq_getElem_cons (by rw [size_L]; exact h)]
  rfl

/-- Was the byte ahead a 13? -/
def was (s : ByteArray) (k : Nat) : Bool := (L s)[k - 1]? == some 13 && decide (0 < k)

theorem was_zero (s : ByteArray) : was s 0 = false := by simp [was]
theorem was_succ (s : ByteArray) (k : Nat) (h : k < s.size) : was s (k + 1) = (s[k] == 13) := by
  have : (L s)[k]? = some s[k] := by rw [List.getElem?_eq_getElem (by rw [size_L]; exact h)]; rfl
  simp [was, this]

theorem bd {acc rest total : List UInt8} {x : UInt8} {n : Nat} (h : (acc ++ [x]) ++ rest = total) (ht : total.length ≤ n) : acc.length + 1 ≤ n := by
  have h1 := congrArg List.length h
  rw [List.length_append, List.length_append, List.length_cons, List.length_nil] at h1
  omega

theorem Own.alloc {N : Nat} {w : World} {v : Value} {l : List UInt8} (h : Own N w v l) (o : Obj) : Own N (w.alloc o) v l := World.ownsRow.alloc h o

set_option maxHeartbeats 1000000 in
theorem lines_any (s : ByteArray) (w : World) (hs : s.size ≤ 140737488355328) :
    Calls Tryz.prog 26 #[.string s] w fun e w' => e = .returned (.string (B (ln false (L s)))) ∧ Below w.heap.size w w' := by
  obtain ⟨i0, hi, hz0, hz1, hz2⟩ := info_parts info_u8
  have hll := ln_len false (L s)
  rw [size_L] at hll
  go_enter Tryz.func26, Tryz.ntmps26
  go_wp2_with (at_make; refine wpList_make_own _ rfl (.const (.int .i64 0)) (.tmp 6) 74 rfl w.heap.size 5 i0 (.int .u8 0) 1 Tryz.underlying74 hi hz0 hz1 .i64 .i64 _ s.size rfl rfl rfl (by rw [hz2]; omega) (by unfold maxLen; omega) (Nat.le_refl _) ?_; intro w1 hown hgrow)
  have hb0 : Below w.heap.size w w1 := (Below.refl w.heap.size w).grown hgrow (Nat.le_refl _) (by simp)
  have ho0 : Own w.heap.size w1 (.slice (some ⟨w.heap.size, 0, none⟩) 0 s.size) [] := hown
  clear hown hgrow
  go_loopw [3, 4, 10] (fun v _ i wr => ∃ (k : Nat) (acc : List UInt8), i = .int .i64 k ∧ k ≤ s.size ∧ Own w.heap.size wr v acc ∧ acc ++ ln (was s k) ((L s).drop k) = ln false (L s) ∧ Below w.heap.size w wr) (fun _ _ i _ => s.size - (intOf i).toNat)
  case atStart => exact ⟨0, [], rfl, Nat.zero_le _, ho0, by simp [was_zero], hb0⟩
  case round =>
    clear ho0 hb0
    obtain ⟨k, acc, rfl, hks, hown, hc, hbel⟩ := hrel
    have hN := hbel.size
    by_cases hp : k < s.size
    · have hdc := drop_cons s k hp
      rw [hdc] at hc
      have hws := was_succ s k hp
      have HW := Lib.hid hws; clear hws hdc
      by_cases h13 : s[k] = 13
      · have hb13 : ((s[k].toNat : Int) == 13) = true := by rw [h13]; rfl
        have hc' : (acc ++ [10]) ++ ln (was s (k + 1)) ((L s).drop (k + 1)) = ln false (L s) := by
          rw [← hc, h13, ln_13, HW.out, h13, List.append_assoc]; rfl
        have hbd := bd hc' hll
        have HC := Lib.hid hc'; clear hc hc' h13
        go_wp2_with (at_builtin; refine wpList_append_own _ rfl (.tmp 24) (.tmp 25) 74 rfl w.heap.size 5 i0 (.int .u8 0) 1 1 Tryz.underlying74 hi hz0 hz1 hz2 rfl (by decide) _ acc.length (acc.map bc) rfl (hown.alloc _) ⟨wr.heap.size, 0, none⟩ 1 1 [.int .u8 10] rfl rfl (cell_one_new _ _ _) (by intro u hu; simp at hu; subst hu; rfl) (by unfold maxLen; omega) (by omega) (by simp; omega) ?_; intro v2 w2 hown2 hgrow2 _)
        go_roundw
        case rel => exact ⟨k + 1, acc ++ [10], by go_num, by omega, Own.appended (m := [10]) hown2 rfl, HC.out, (hown.alloc _).below hgrow2 (hbel.alloc hN _) (by simp; omega)⟩
        case measure => simp [intOf]; omega
      · have hb13 : ((s[k].toNat : Int) == 13) = false := by
          simpa using fun h => h13 (u8_ext (by simpa using (by omega : s[k].toNat = 13)))
        have hn13 : (s[k] == 13) = false := by simpa using h13
        by_cases h10 : s[k] = 10
        · have hb10 : ((s[k].toNat : Int) == 10) = true := by rw [h10]; rfl
          by_cases h0 : 0 < k
          · obtain ⟨j, rfl⟩ : ∃ j, k = j + 1 := ⟨k - 1, by omega⟩
            have hj : j < s.size := by omega
            have hws := was_succ s j hj
            by_cases hj13 : s[j] = 13
            · have hbj : ((s[j].toNat : Int) == 13) = true := by rw [hj13]; rfl
              have hc' : acc ++ ln (was s (j + 1 + 1)) ((L s).drop (j + 1 + 1)) = ln false (L s) := by
                rw [← hc, h10, HW.out, hn13, hws, hj13]
                exact congrArg (acc ++ ·) (ln_10 _).symm
              have HC := Lib.hid hc'; clear hc hc' hws hj13 h10 h13 hn13 h0
              go_wp2_with fail
              go_roundw
              case rel => exact ⟨j + 1 + 1, acc, by go_num, by omega, hown, HC.out, hbel⟩
              case measure => simp [intOf]; omega
            · have hbj : ((s[j].toNat : Int) == 13) = false := by
                simpa using fun h => hj13 (u8_ext (by simpa using (by omega : s[j].toNat = 13)))
              have hc' : (acc ++ [s[j + 1]]) ++ ln (was s (j + 1 + 1)) ((L s).drop (j + 1 + 1)) = ln false (L s) := by
                rw [← hc, ln_other _ _ _ h13 ?_, HW.out, hn13, List.append_assoc]; rfl
                rw [hws]; simp [hj13]
              have hbd := bd hc' hll
              have HC := Lib.hid hc'; clear hc hc' hws hj13 h10 h13 hn13 h0
              go_wp2_with (at_builtin; refine wpList_append_own _ rfl (.tmp 13) (.tmp 17) 74 rfl w.heap.size 5 i0 (.int .u8 0) 1 1 Tryz.underlying74 hi hz0 hz1 hz2 rfl (by decide) _ acc.length (acc.map bc) rfl (hown.alloc _) ⟨wr.heap.size, 0, none⟩ 1 1 [.int .u8 s[j + 1].toNat] rfl rfl (cell_one_new _ _ _) (by intro u hu; simp at hu; subst hu; rfl) (by unfold maxLen; omega) (by omega) (by simp; omega) ?_; intro v2 w2 hown2 hgrow2 _)
              go_roundw
              case rel => exact ⟨j + 1 + 1, acc ++ [s[j + 1]], by go_num, by omega, Own.appended (m := [s[j + 1]]) hown2 rfl, HC.out, (hown.alloc _).below hgrow2 (hbel.alloc hN _) (by simp; omega)⟩
              case measure => simp [intOf]; omega
          · obtain rfl : k = 0 := by omega
            have hc' : (acc ++ [s[0]]) ++ ln (was s (0 + 1)) ((L s).drop (0 + 1)) = ln false (L s) := by
              rw [← hc, ln_other _ _ _ h13 ?_, HW.out, hn13, List.append_assoc]; rfl
              rw [was_zero]; simp
            have hbd := bd hc' hll
            have HC := Lib.hid hc'; clear hc hc' h10 h13 hn13 h0
            go_wp2_with (at_builtin; refine wpList_append_own _ rfl (.tmp 13) (.tmp 17) 74 rfl w.heap.size 5 i0 (.int .u8 0) 1 1 Tryz.underlying74 hi hz0 hz1 hz2 rfl (by decide) _ acc.length (acc.map bc) rfl (hown.alloc _) ⟨wr.heap.size, 0, none⟩ 1 1 [.int .u8 s[0].toNat] rfl rfl (cell_one_new _ _ _) (by intro u hu; simp at hu; subst hu; rfl) (by unfold maxLen; omega) (by omega) (by simp; omega) ?_; intro v2 w2 hown2 hgrow2 _)
            go_roundw
            case rel => exact ⟨0 + 1, acc ++ [s[0]], by go_num, by omega, Own.appended (m := [s[0]]) hown2 rfl, HC.out, (hown.alloc _).below hgrow2 (hbel.alloc hN _) (by simp; omega)⟩
            case measure => simp [intOf]; omega
        · have hb10 : ((s[k].toNat : Int) == 10) = false := by
            simpa using fun h => h10 (u8_ext (by simpa using (by omega : s[k].toNat = 10)))
          have hc' : (acc ++ [s[k]]) ++ ln (was s (k + 1)) ((L s).drop (k + 1)) = ln false (L s) := by
            rw [← hc, ln_other _ _ _ h13 (fun x => h10 x.1), HW.out, hn13, List.append_assoc]; rfl
          have hbd := bd hc' hll
          have HC := Lib.hid hc'; clear hc hc'
          clear h13 h10 hn13
          go_wp2_with (at_builtin; refine wpList_append_own _ rfl (.tmp 13) (.tmp 17) 74 rfl w.heap.size 5 i0 (.int .u8 0) 1 1 Tryz.underlying74 hi hz0 hz1 hz2 rfl (by decide) _ acc.length (acc.map bc) rfl (hown.alloc _) ⟨wr.heap.size, 0, none⟩ 1 1 [.int .u8 s[k].toNat] rfl rfl (cell_one_new _ _ _) (by intro u hu; simp at hu; subst hu; rfl) (by unfold maxLen; omega) (by omega) (by simp; omega) ?_; intro v2 w2 hown2 hgrow2 _)
          go_roundw
          case rel => exact ⟨k + 1, acc ++ [s[k]], by go_num, by omega, Own.appended (m := [s[k]]) hown2 rfl, HC.out, (hown.alloc _).below hgrow2 (hbel.alloc hN _) (by simp; omega)⟩
          case measure => simp [intOf]; omega
    · have hcv := hown.string
      rw [List.drop_eq_nil_of_le (by rw [size_L]; omega)] at hc
      have HC := Lib.hid hc; clear hc
      go_wp2
      go_ret
      refine ⟨ret_str ?_, hbel⟩
      have h1 := HC.out
      rw [show ln (was s k) [] = [] from by cases (was s k) <;> rfl, List.append_nil] at h1
      rw [h1]

theorem ready_any (s : ByteArray) (w : World) (hs : s.size ≤ 140737488355328) (hd : (dL (L s)).length ≤ 140737488355328) :
    Calls Tryz.prog 11 #[.string s] w fun e w' => e = .returned (.string (B (ln false (dL (L s))))) ∧ Below w.heap.size w w' := by
  go_enter Tryz.func11, Tryz.ntmps11
  go_wp2_with fail
  refine (decode_any s _ hs hd).mono ?_
  rintro e w1 ⟨rfl, hb1⟩
  go_wp2_with fail
  refine (lines_any (B (dL (L s))) _ (by rw [size_B]; exact hd)).mono ?_
  rintro e w2 ⟨rfl, hb2⟩
  go_wp2
  go_ret
  exact ⟨ret_str (by rw [L_B]), hb1.trans (hb2.mono hb1.size)⟩

end Go.Proofs.YtdplbcchkjpcdaaGreatDoor.Ch

namespace Go.Proofs.YtdplbcchkjpcdaaGreatDoor.Bu
set_option maxRecDepth 100000
set_option linter.unusedVariables false
set_option linter.unusedSimpArgs false
open Go.RowKit Ba Fm Fo Nm Bm
open Ro (At Ro Cw ros Fr Ow Rv)
open Tm (Tk within bulk bulkT bulkA)
open To (Tw tks)
open Re (Tab)
/-- Bytes made ready. -/
def rdy (l : List UInt8) : List UInt8 := Ch.ln false (Ch.dL l)
theorem len_rdy (l : List UInt8) : (rdy l).length ≤ 3 * l.length := Nat.le_trans (Ch.ln_len _ _) (Ch.len_dL l)
theorem ready1 (s : ByteArray) (w : World) (hs : s.size ≤ 5000) :
    Calls Tryz.prog 11 #[.string s] w fun e w' => e = .returned (.string (B (rdy (L s)))) ∧ Below w.heap.size w w' := by
  have hsz := size_L s
  have hdl := Ch.len_dL (L s)
  refine (Ch.ready_any s w (by omega) (show (Ch.dL (L s)).length ≤ _ from by omega)).mono ?_
  rintro e w1 ⟨rfl, b1⟩
  exact ⟨rfl, b1⟩
theorem dsum_bulk : ∀ l : List Tk, dsum l ≤ bulk l
  | [] => Nat.zero_le _
  | t :: r => by
    have := dsum_bulk r
    show t.data.size + dsum r ≤ (List.map bulkT (t :: r)).sum
    rw [List.map_cons, List.sum_cons]
    have e : bulkT t = t.name.size + t.data.size + bulkA t.attrs + t.attrs.length := rfl
    have e2 : bulk r = (List.map bulkT r).sum := rfl
    omega
/-- What In comes to, and how great it may be. -/
def SaysM (w : World) (r : Option (List Ro)) (e : Ending) (w' : World) : Prop :=
  (match r with
  | none => e = .returned (.tuple #[.slice none 0 0, .int .i64 2])
  | some o => ∃ v y, e = .returned (.tuple #[v, .int .i64 0]) ∧ Rv w' v y ∧ ros y = o ∧ Ro.Few o ∧ (Ro.txt o).length ≤ 1000000000) ∧ Below w.heap.size w w'
/-- What In and Parse come to. -/
def Says (w : World) (r : Option (List Ro)) (e : Ending) (w' : World) : Prop :=
  (match r with
  | none => e = .returned (.tuple #[.slice none 0 0, .int .i64 2])
  | some o => ∃ v y, e = .returned (.tuple #[v, .int .i64 0]) ∧ Rv w' v y ∧ ros y = o) ∧ Below w.heap.size w w'
theorem TreeSays.cases {w w' : World} {t : List Tk} {e : Ending} (h : TreeSays w t e w') :
    (treeB ⟨[], []⟩ t = none ∧ e = .returned (.tuple #[.slice none 0 0, .int .i64 2]) ∧ Below w.heap.size w w') ∨
    (∃ o v y, treeB ⟨[], []⟩ t = some o ∧ e = .returned (.tuple #[v, .int .i64 0]) ∧ Ow w.heap.size w' v y ∧ (∀ z ∈ y, Fr w.heap.size w' z) ∧ ros y = o ∧ (Ro.Few o ∧ (Ro.txt o).length ≤ 1000000000) ∧ Below w.heap.size w w') := by
  obtain ⟨h1, h2⟩ := h
  cases ht : treeB ⟨[], []⟩ t with
  | none => rw [ht] at h1; exact .inl ⟨rfl, h1, h2⟩
  | some o =>
    rw [ht] at h1
    obtain ⟨v, y, e1, e2, e3, e4, e5⟩ := h1
    exact .inr ⟨o, v, y, rfl, e1, e2, e3, e4, e5, h2⟩
theorem good_zero : ∀ {l : List Ro} {p : List ByteArray}, goodFrom p l → ∀ x ∈ l, 0 ≤ x.depth
  | [], p, _, x, h => by cases h
  | y :: l, p, h, x, hx => by
    rcases List.mem_cons.1 hx with e | e
    · rw [e]; exact h.1.1
    · exact good_zero h.2 x e
theorem tree_held {t : List Tk} {o : List Ro} (h : treeB ⟨[], []⟩ t = some o) : Ro.Held o := fun x hx => by
  obtain ⟨h1, _, _, h2⟩ := tree_all h
  have := good_zero h1 x hx
  have := h2.2 x hx
  omega

set_option maxRecDepth 100000 in
set_option maxHeartbeats 1000000 in
theorem In_any (s nm : ByteArray) (w : World) (hs : s.size ≤ 5000) (hn : nm.size ≤ 140737488351232) (hT : Tab w) :
    Calls Tryz.prog 4 #[.string s, .string nm] w fun e w' => SaysM w (treeB ⟨[], []⟩ (within (L nm) (rdy (L s)))) e w' := by
  have h : decide ((65536 : Int) < (s.size : Int)) = false := decide_eq_false (by omega)
  have hsz := size_L s
  have hdl := Ch.len_dL (L s)
  have hrl := len_rdy (L s)
  have HT := Lib.hid hT
  clear hT
  go_enter Tryz.func4, Tryz.ntmps4
  go_wp2_with fail
  refine (ready1 s w hs).mono ?_
  rintro e w1 ⟨rfl, b1⟩
  have hT1 := HT.out.below b1
  have HB1 := Lib.hid b1
  clear b1
  go_wp2_with fail
  refine (To.In_any (B (rdy (L s))) nm w1 (by rw [size_B]; omega) hn hT1).mono ?_
  rintro e w2 ⟨V, l, rfl, ho, hl, b2⟩
  rw [L_B] at hl
  obtain ⟨A, c, rfl, hc, _, _, hr⟩ := ho.form
  have hwl := Tm.within_len (L nm) (rdy (L s))
  have hwb := Tm.bulk_within (L nm) (rdy (L s))
  have hl' : tks l = within (L nm) (rdy (L s)) := hl
  have hll : l.length ≤ 200000 := by rw [← To.len_tks, hl']; omega
  have hds : dsum (tks l) ≤ 1000000000 := by
    have := dsum_bulk (tks l)
    rw [hl'] at this ⊢
    omega
  have hat : ∀ x ∈ l, x.tk.attrs.length ≤ 1000000 := fun x hx => by
    have h1 := Tm.bulk_mem (l := tks l) (t := x.tk) (List.mem_map.2 ⟨x, hx, rfl⟩)
    rw [hl'] at h1
    unfold bulkT at h1
    omega
  have HL := Lib.hid hl'; have HR := Lib.hid hr; have HB2 := Lib.hid (bt HB1.out b2)
  clear hl hl' hr ho b2 hwl hwb hT1 hdl hrl hsz
  go_wp2_with fail
  refine (Tree_any A c l w2 HR.out hc hll hds hat).mono ?_
  intro e w3 h3
  rw [HL.out] at h3
  rcases h3.cases with ⟨ht, rfl, b3⟩ | ⟨o, v, y, ht, rfl, how, hfr, hros, hmi, b3⟩
  · have HTR := Lib.hid ht
    clear ht h3
    go_wp2
    go_ret2
    rw [HTR.out]
    exact ⟨rfl, bt HB2.out b3⟩
  · have HTR := Lib.hid ht; have HO := Lib.hid how; have HRO := Lib.hid hros; have HB3 := Lib.hid (bt HB2.out b3)
    clear ht h3 how hfr hros b3
    go_wp2
    go_ret2
    rw [HTR.out]
    exact ⟨⟨v, y, rfl, HO.out.rv (by rw [HRO.out]; exact tree_held HTR.out), HRO.out, hmi⟩, HB3.out⟩

theorem In1 (s nm : ByteArray) (w : World) (r : Option (List Ro)) (hs : s.size ≤ 5000) (hn : nm.size ≤ 140737488351232) (hT : Tab w) (hr : treeB ⟨[], []⟩ (within (L nm) (rdy (L s))) = r) :
    Calls Tryz.prog 4 #[.string s, .string nm] w fun e w' => Says w r e w' := by
  subst hr
  refine (In_any s nm w hs hn hT).mono ?_
  rintro e w' ⟨h1, h2⟩
  refine ⟨?_, h2⟩
  cases ht : treeB ⟨[], []⟩ (within (L nm) (rdy (L s))) with
  | none => rw [ht] at h1; exact h1
  | some o =>
    rw [ht] at h1
    obtain ⟨v, y, a, b, c, _⟩ := h1
    exact ⟨v, y, a, b, c⟩
theorem Parse1 (s : ByteArray) (w : World) (r : Option (List Ro)) (hs : s.size ≤ 5000) (hT : Tab w) (hr : treeB ⟨[], []⟩ (within [] (rdy (L s))) = r) :
    Calls Tryz.prog 6 #[.string s] w fun e w' => Says w r e w' := by
  go_enter Tryz.func6, Tryz.ntmps6
  go_wp2_with fail
  refine (In1 s _ w r hs (by decide) hT hr).mono ?_
  intro e w1 h1
  cases r with
  | none =>
    obtain ⟨rfl, b1⟩ := h1
    go_wp2
    go_ret2
    exact ⟨rfl, b1⟩
  | some o =>
    obtain ⟨⟨v, y, rfl, hv, hy⟩, b1⟩ := h1
    have HV := Lib.hid hv; have HY := Lib.hid hy
    clear hv hy hr
    go_wp2
    go_ret2
    exact ⟨⟨v, y, rfl, HV.out, HY.out⟩, b1⟩

end Go.Proofs.YtdplbcchkjpcdaaGreatDoor.Bu

namespace Go.Proofs.YtdplbcchkjpcdaaGreatDoor.Tm
set_option linter.unusedVariables false
set_option linter.unusedSimpArgs false
open Ba Fm Rm Nm
open Ro (At)
def runF (f : List UInt8 → List UInt8 × Nat) : Nat → List UInt8 → List UInt8
  | 0, _ => []
  | n + 1, l => if l.isEmpty = true then [] else (f l).1 ++ runF f n (l.drop ((f l).2 - 1 + 1))
theorem run_eval (f : List UInt8 → List UInt8 × Nat) : ∀ (n : Nat) (l : List UInt8), l.length ≤ n → run f l = runF f n l
  | 0, l, h => by
    have : l = [] := List.eq_nil_of_length_eq_zero (by omega)
    rw [this, run_nil]
    rfl
  | n + 1, l, h => by
    by_cases he : l = []
    · rw [he, run_nil]; rfl
    · rw [run, dif_neg he]
      have hi : l.isEmpty = false := by simpa using he
      show _ = if l.isEmpty = true then [] else _
      rw [if_neg (by rw [hi]; simp), run_eval f n]
      have : 0 < l.length := List.length_pos_iff.2 he
      rw [List.length_drop]
      omega
def decF (l : List UInt8) : List UInt8 := runF fst l.length l
theorem dec_eval : dec = decF := funext fun l => run_eval fst l.length l (Nat.le_refl _)
def valuedF (l : List UInt8) : List UInt8 × List UInt8 :=
  if l.head? = some 61 then (decF (value (trimS (l.drop 1))).1, (value (trimS (l.drop 1))).2) else ([], l)
theorem valued_eval : valued = valuedF := by funext l; unfold valued valuedF; rw [dec_eval]
def attrF (c : UInt8) (r : List UInt8) : At × List UInt8 :=
  (⟨B (lowL (c :: upTo ea r)), B (valuedF (trimS (from_ ea r))).1⟩, (valuedF (trimS (from_ ea r))).2)
theorem attr_eval : attr = attrF := by funext c r; unfold attr attrF; rw [valued_eval]
def attrsF : Nat → Bool → List At → List UInt8 → Option (List At × Bool × List UInt8)
  | 0, _, _, _ => none
  | _ + 1, _, _, [] => none
  | n + 1, self, acc, c :: r => if c = 62 then some (acc, self, r) else if c = 47 ∨ sp c = true then attrsF n (c == 47) acc r else attrsF n false (put acc (attrF c r).1) (attrF c r).2
theorem attrs_eval : ∀ (n : Nat) (self : Bool) (acc : List At) (l : List UInt8), l.length < n → attrs self acc l = attrsF n self acc l
  | 0, _, _, _, h => absurd h (by omega)
  | n + 1, self, acc, [], _ => attrs_nil self acc
  | n + 1, self, acc, c :: r, h => by
    simp only [List.length_cons] at h
    have h3 := len_attr c r
    rw [attrs]
    show _ = if c = 62 then some (acc, self, r) else if c = 47 ∨ sp c = true then attrsF n (c == 47) acc r else attrsF n false (put acc (attrF c r).1) (attrF c r).2
    rw [attrs_eval n _ _ r (by omega), attrs_eval n _ _ (attr c r).2 (by omega), attr_eval]
def contF (n : List UInt8) (l : List UInt8) : List Tk × List UInt8 :=
  if rawB n = true then (txt (lead (isEnd n) l), trail (isEnd n) l)
  else if softB n = true then (txt (decF (lead (isEnd n) l)), trail (isEnd n) l)
  else ([], l)
theorem cont_eval : cont = contF := by funext n l; unfold cont contF; rw [dec_eval]
def startF (l : List UInt8) : List Tk × List UInt8 := match attrsF ((from_ en l).length + 1) false [] (from_ en l) with
  | none => ([], [])
  | some (bs, self, r) => (⟨1, B (lowL (upTo en l)), B [], bs, self⟩ :: (contF (lowL (upTo en l)) r).1, (contF (lowL (upTo en l)) r).2)
def endF (l : List UInt8) : List Tk × List UInt8 := match attrsF ((from_ en l).length + 1) false [] (from_ en l) with
  | none => ([], [])
  | some (bs, self, r) => ([⟨2, B (lowL (upTo en l)), B [], [], false⟩], r)
theorem start_eval : startTag = startF := by funext l; unfold startTag startF; rw [attrs_eval ((from_ en l).length + 1) _ _ _ (Nat.lt_succ_self _), cont_eval]; rfl
theorem end_eval : endTag = endF := by funext l; unfold endTag endF; rw [attrs_eval ((from_ en l).length + 1) _ _ _ (Nat.lt_succ_self _)]; rfl
def mkF (l : List UInt8) : List Tk × List UInt8 :=
  if begun l = 1 then startF (l.drop 1)
  else if begun l = 2 then endF (l.drop 2)
  else if begun l = 3 then ([], l.drop 3)
  else if begun l = 4 then ([⟨3, B [], B (comm (l.drop 4)).1, [], false⟩], (comm (l.drop 4)).2)
  else if begun l = 5 then ([⟨4, B [], B (trimL (closed (l.drop 9)).1), [], false⟩], (closed (l.drop 9)).2)
  else if begun l = 6 then ([⟨3, B [], B (closed (marks (l.drop 1))).1, [], false⟩], (closed (marks (l.drop 1))).2)
  else ([], l)
theorem mk_eval : mk = mkF := by funext l; unfold mk mkF; rw [start_eval, end_eval]
def turnF (l : List UInt8) : List Tk × List UInt8 := (txt (decF (lead bg l)) ++ (mkF (trail bg l)).1, (mkF (trail bg l)).2)
theorem turn_eval : turn = turnF := by funext l; unfold turn turnF; rw [dec_eval, mk_eval]
def cutF : Nat → List UInt8 → List Tk
  | 0, _ => []
  | n + 1, l => if l.isEmpty = true then [] else (turnF l).1 ++ cutF n (turnF l).2
theorem cut_eval : ∀ (n : Nat) (l : List UInt8), l.length ≤ n → cut l = cutF n l
  | 0, l, h => by
    have : l = [] := List.eq_nil_of_length_eq_zero (by omega)
    rw [this]
    exact To.cut_nil
  | n + 1, l, h => by
    by_cases he : l = []
    · rw [he]; exact To.cut_nil
    · have hi : l.isEmpty = false := by simpa using he
      have hl := To.len_turn he
      show _ = if l.isEmpty = true then [] else _
      rw [if_neg (by rw [hi]; simp), To.cut_step he, cut_eval n _ (by omega), turn_eval]
def withinF (n l : List UInt8) : List Tk := (contF n l).1 ++ cutF l.length (contF n l).2
theorem within_eval (n l : List UInt8) : within n l = withinF n l := by
  unfold within withinF
  rw [cut_eval l.length _ (To.len_cont n l), cont_eval]
end Go.Proofs.YtdplbcchkjpcdaaGreatDoor.Tm

namespace Go.Proofs.YtdplbcchkjpcdaaGreatDoor.Bm
set_option linter.unusedVariables false
set_option linter.unusedSimpArgs false
open Ba Fm Nm
open Ro (At Ro)
open Tm (Tk put tx)
def closedF (ns ws : List ByteArray) : Nat → List ByteArray → List ByteArray
  | 0, s => s
  | k + 1, s => match findS ns ws s with
    | none => s
    | some r => closedF ns ws k r
theorem closed_eval (ns ws : List ByteArray) : ∀ (k : Nat) (s : List ByteArray), s.length ≤ k → closedS ns ws s = closedF ns ws k s
  | 0, s, h => by
    obtain rfl : s = [] := List.eq_nil_of_length_eq_zero (by omega)
    rw [closedS_no rfl]
    rfl
  | k + 1, s, h => by
    unfold closedF
    cases hf : findS ns ws s with
    | none => rw [closedS_no hf]
    | some r =>
      rw [closedS_yes hf]
      exact closed_eval ns ws k r (by have := findS_len hf; omega)
def openedF (n : ByteArray) (s : List ByteArray) : List ByteArray :=
  if para n = true then closedF [n_p] (wallsL n_p) s.length (closedF (closesL n) (wallsL n) s.length s) else closedF (closesL n) (wallsL n) s.length s
theorem opened_eval (n : ByteArray) (s : List ByteArray) : openedS n s = openedF n s := by
  unfold openedS openedF
  rw [← closed_eval _ _ s.length s (Nat.le_refl _), ← closed_eval _ _ s.length _ (closedS_end _ _ _).2.length_le]
def stepF (st : St) (t : Tk) : St :=
  if t.kind = 0 then (if t.data = ⟨#[]⟩ then st else ⟨st.stk, addText st.out st.stk.length t.data⟩)
  else if t.kind = 3 then ⟨st.stk, st.out ++ [⟨st.stk.length, 2, ⟨#[]⟩, t.data, []⟩]⟩
  else if t.kind = 1 then (if noName t.name = true then st else ⟨if isIn t.name voidL = true then openedF t.name st.stk else t.name :: openedF t.name st.stk, st.out ++ [⟨(openedF t.name st.stk).length, 0, t.name, ⟨#[]⟩, once t.attrs⟩]⟩)
  else if t.kind = 2 then (if noName t.name = true ∨ isIn t.name voidL = true then st else
    match findS [t.name] (endWalls t.name) st.stk with
    | some r => ⟨r, st.out⟩
    | none => if t.name = n_p then ⟨st.stk, st.out ++ [⟨st.stk.length, 0, n_p, ⟨#[]⟩, []⟩]⟩ else st)
  else st
theorem step_eval (st : St) (t : Tk) : stepB st t = stepF st t := by
  unfold stepB stepF
  rw [← opened_eval]
  rfl
def treeF (st : St) : List Tk → Option (List Ro)
  | [] => some st.out
  | t :: r => if tooBig (stepF st t).out = true then none else treeF (stepF st t) r
theorem tree_eval : ∀ (l : List Tk) (st : St), treeB st l = treeF st l
  | [], st => rfl
  | t :: r, st => by
    show (if tooBig (stepB st t).out = true then none else treeB (stepB st t) r) = (if tooBig (stepF st t).out = true then none else treeF (stepF st t) r)
    rw [step_eval, tree_eval r]
def nestedF (n : ByteArray) (o : List ByteArray) : Bool := decide ((openedF n o.reverse).length = o.length)
theorem nested_eval (n : ByteArray) (o : List ByteArray) : nestedB n o = nestedF n o := by
  unfold nestedB nestedF
  rw [opened_eval]

abbrev rE (d : Int) (n : List UInt8) : Ro := ⟨d, 0, B n, ⟨#[]⟩, []⟩
abbrev rT (d : Int) (s : List UInt8) : Ro := ⟨d, 1, ⟨#[]⟩, B s, []⟩
abbrev t1 (n : List UInt8) : Tk := ⟨1, B n, B [], [], false⟩
abbrev t2 (n : List UInt8) : Tk := ⟨2, B n, B [], [], false⟩
set_option maxRecDepth 100000 in
theorem tokA : Tm.within [] [60, 112, 62, 97, 60, 112, 62, 98] = [t1 [112], tx [97], t1 [112], tx [98]] := by rw [Tm.within_eval]; decide
set_option maxRecDepth 100000 in
theorem treA : treeB ⟨[], []⟩ [t1 [112], tx [97], t1 [112], tx [98]] = some [rE 0 [112], rT 1 [97], rE 0 [112], rT 1 [98]] := by rw [tree_eval]; decide
set_option maxRecDepth 100000 in
theorem tokB : Tm.within [] [60, 117, 108, 62, 60, 108, 105, 62, 97, 60, 108, 105, 62, 98, 60, 47, 117, 108, 62, 99] = [t1 [117, 108], t1 [108, 105], tx [97], t1 [108, 105], tx [98], t2 [117, 108], tx [99]] := by rw [Tm.within_eval]; decide
set_option maxRecDepth 100000 in
theorem treB : treeB ⟨[], []⟩ [t1 [117, 108], t1 [108, 105], tx [97], t1 [108, 105], tx [98], t2 [117, 108], tx [99]] = some [rE 0 [117, 108], rE 1 [108, 105], rT 2 [97], rE 1 [108, 105], rT 2 [98], rT 0 [99]] := by rw [tree_eval]; decide
set_option maxRecDepth 100000 in
theorem tokC : Tm.within [] [60, 47, 112, 62] = [t2 [112]] := by rw [Tm.within_eval]; decide
set_option maxRecDepth 100000 in
theorem treC : treeB ⟨[], []⟩ [t2 [112]] = some [rE 0 [112]] := by rw [tree_eval]; decide
set_option maxRecDepth 100000 in
theorem tokD : Tm.within [] [97, 60, 47, 98, 62, 99] = [tx [97], t2 [98], tx [99]] := by rw [Tm.within_eval]; decide
set_option maxRecDepth 100000 in
theorem treD : treeB ⟨[], []⟩ [tx [97], t2 [98], tx [99]] = some [rT 0 [97, 99]] := by rw [tree_eval]; decide
set_option maxRecDepth 100000 in
theorem tokE : Tm.within [115, 116, 121, 108, 101] [97, 60, 98, 62] = [tx [97, 60, 98, 62]] := by rw [Tm.within_eval]; decide
set_option maxRecDepth 100000 in
theorem treE : treeB ⟨[], []⟩ [tx [97, 60, 98, 62]] = some [rT 0 [97, 60, 98, 62]] := by rw [tree_eval]; decide
theorem nesA : nestedB n_p [n_p, ⟨#[98]⟩] = false := by rw [nested_eval]; decide
theorem nesB : nestedB n_p [n_p, n_td] = true := by rw [nested_eval]; decide

end Go.Proofs.YtdplbcchkjpcdaaGreatDoor.Bm

namespace Go.Proofs.YtdplbcchkjpcdaaGreatDoor.Re
set_option maxRecDepth 100000
set_option linter.unusedSimpArgs false
set_option linter.unusedVariables false
open Go.ChangeShapes Go.WideShapes Go.ChangeAt Go.RowKit Ba Rm
abbrev laidL : List (String × DataW Unit) := [("bolting/refs.named", Rows.laid_bolting_refs_named)]
theorem gNamed : Tryz.prog.globalNamed "bolting/refs.named" = some 0 := by kernel_rfl
theorem tNamed : (Tryz.prog.globals[0]?).map (·.type) = some 114 := by kernel_rfl
theorem datum : (Rows.laid_bolting_refs_named : DataW Unit) = .agg (tab.map fun p => .agg [.lit (.string p.1), .lit (.int .i64 p.2)]) := by kernel_rfl
theorem c34 : Tryz.prog.cellsOf 113 = 2 := by kernel_rfl
theorem c9 : Tryz.prog.cellsOf 9 = 1 := by kernel_rfl
theorem c3 : Tryz.prog.cellsOf 3 = 1 := by kernel_rfl

theorem door_met (os : Os) (args : Array Value) : laidMetH Tryz.prog laidL ((World.doorLaid Tryz.prog 400 os).forCall (fun _ _ => 0) ⟨#[], args, []⟩).memory :=
  laidMetH_of_parts3 (fuel := 8) (laidMet_of_run' 8 (by kernel_rfl) (by kernel_rfl)) (by kernel_rfl) (by kernel_rfl)

theorem pair_at {W : World} {enc : TypeId × Value → Unit} {sp : Nat → Bool} {hd : Bool} {m : Nat} {cs : List Value} {x : DataW Unit × List MemPlace} {p : List UInt8 × Nat}
    (h : DataW.trod enc Tryz.prog W 0 sp hd m 113 cs = some x) (e : x.1 = .agg [.lit (.string p.1), .lit (.int .i64 p.2)]) : cs = [.string (B p.1), .int .i64 p.2] := by
  obtain ⟨y0, y1, n, rfl, hl, h0, h1⟩ := trod_struct2 Tryz.underlying113 h
  rw [c34] at hl
  simp only [DataW.agg.injEq, List.cons.injEq, and_true] at e
  obtain ⟨e0, e1⟩ := e
  obtain ⟨s, q0, rfl, _⟩ := DataW.trod_string Tryz.underlying9 h0
  obtain ⟨k, q1, rfl, _⟩ := DataW.trod_int Tryz.underlying3 h1
  simp only [DataW.lit.injEq, Lit.string.injEq, Lit.int.injEq, true_and] at e0 e1
  have q0' : (cs.drop 0).take 1 = [.string s] := by rw [← q0]; rw [show Tryz.prog.cellsOf _ = 1 from c9]
  have q1' : (cs.drop 1).take 1 = [.int .i64 k] := by rw [← q1]; rw [show Tryz.prog.cellsOf _ = 1 from c3]
  match cs, hl, q0', q1' with
  | [a, b], _, q0', q1' =>
    simp at q0' q1'
    rw [q0', q1', e1, show s = B p.1 from B_of e0]

set_option maxRecDepth 100000 in
theorem tab_of_laid {W : World} (h : laidMetH Tryz.prog laidL W) : Tab W := by
  rw [MakeChecks.laidMetH_plain _ _ _ (by kernel_rfl)] at h
  obtain ⟨ps, ⟨g0, t0, cs0, f0, p0, q0, hg0, ht0, hv0, hd0, _, _⟩, _, _⟩ := h
  obtain rfl := Option.some.inj (gNamed.symm.trans hg0)
  obtain rfl := Option.some.inj (tNamed.symm.trans ht0)
  rw [datum] at hd0
  obtain ⟨xs, m, rfl, hx, hlen, hn, hel⟩ := DataW.trod_array Tryz.underlying114 hd0
  simp only [Prod.mk.injEq, DataW.agg.injEq] at hx
  have hc : ∀ i, i < 24 → ∀ p, tab[i]? = some p → (cs0.toList.drop (2 * i)).take 2 = [.string (B p.1), .int .i64 p.2] := by
    intro i hi p hp
    have h1 := hel i hi
    rw [c34, Nat.mul_comm i 2] at h1
    have hxi : i < xs.length := by omega
    rw [List.getElem?_eq_getElem hxi] at h1
    refine pair_at h1 ?_
    have h2 := congrArg (fun l => l[i]?) hx.1
    simp only [List.getElem?_map, hp, Option.map_some, List.getElem?_eq_getElem hxi, Option.some.injEq] at h2
    exact h2.symm
  have hcell : ∀ j v, (cellsOf2 tab)[j]? = some v → W.cell? ⟨0, j, none⟩ = some v := by
    intro j v hv
    rw [World.var?_cell hg0 hv0 j, ← Array.getElem?_toList]
    have hj : j < 48 := (List.getElem?_eq_some_iff.1 hv).1
    have hi : j / 2 < 24 := by omega
    obtain ⟨p, hp⟩ : ∃ p, tab[j / 2]? = some p := ⟨_, List.getElem?_eq_getElem (show j / 2 < tab.length from hi)⟩
    have h1 := hc (j / 2) hi p hp
    have h2 : ((cellsOf2 tab).drop (2 * (j / 2))).take 2 = [.string (B p.1), .int .i64 p.2] := by
      rw [cellsOf2_drop]
      have : tab.drop (j / 2) = p :: tab.drop (j / 2 + 1) := by
        rw [List.drop_eq_getElem_cons (show j / 2 < tab.length from hi)]
        congr 1
        rw [List.getElem?_eq_getElem (show j / 2 < tab.length from hi)] at hp
        exact Option.some.inj hp
      rw [this]; rfl
    have h3 : ∀ l : List Value, ((l.drop (2 * (j / 2))).take 2)[j % 2]? = l[j]? := fun l => by
      rw [List.getElem?_take_of_lt (by omega), List.getElem?_drop]
      congr 1
      omega
    rw [← h3, h1, ← h2, h3]
    exact hv
  refine ⟨fun j v hv => by rw [Nat.zero_add]; exact hcell j v hv, ?_⟩
  have h0 := hcell 0 (.string (B [97, 109, 112])) rfl
  cases hz : W.heap.size with
  | succ n => omega
  | zero =>
    have : W.heap[0]? = none := Array.getElem?_eq_none (by omega)
    simp [World.cell?, this] at h0

end Go.Proofs.YtdplbcchkjpcdaaGreatDoor.Re

namespace Go.Proofs.YtdplbcchkjpcdaaGreatDoor.Bu
set_option maxRecDepth 100000
set_option linter.unusedVariables false
set_option linter.unusedSimpArgs false
open Go.RowKit Ba Fm Fo Nm Bm
open Ro (At Ro Cw ros Fr Ow Rv cells bare rows_new refSame1)
open Tm (Tk within tx)
open Re (Tab)
theorem el_any (d : Int) (n : ByteArray) (w : World) : Calls Tryz.prog 15 #[.int .i64 d, .string n] w fun e w' => e = .returned (.agg #[.int .i64 d, .int .i64 0, .string n, .string ⟨#[]⟩, .slice none 0 0]) ∧ Below w.heap.size w w' := by
  go_enter Tryz.func15, Tryz.ntmps15
  go_wp2
  refine bodyPost_ret (v := .agg #[.int .i64 d, .int .i64 0, .string n, .string ⟨#[]⟩, .slice none 0 0]) (by simp [results, Tryz.f15, go_sem]) rfl ?_
  exact ⟨rfl, below_one w _⟩
theorem text_any (d : Int) (n : ByteArray) (w : World) : Calls Tryz.prog 16 #[.int .i64 d, .string n] w fun e w' => e = .returned (.agg #[.int .i64 d, .int .i64 1, .string ⟨#[]⟩, .string n, .slice none 0 0]) ∧ Below w.heap.size w w' := by
  go_enter Tryz.func16, Tryz.ntmps16
  go_wp2
  refine bodyPost_ret (v := .agg #[.int .i64 d, .int .i64 1, .string ⟨#[]⟩, .string n, .slice none 0 0]) (by simp [results, Tryz.f16, go_sem]) rfl ?_
  exact ⟨rfl, below_one w _⟩

theorem ros_bare (o : List Ro) : ros (o.map bare) = o := by
  unfold ros
  rw [List.map_map]
  exact List.map_id _
/-- What was told is held against rows written out. -/
theorem sameR (w : World) (V : Value) (x : List Cw) (o : List Ro) (cs : Array Value) (n : Nat) (hv : Rv w V x) (hx : x.length ≤ 1000) (hn : o.length = n) (hm : n ≤ 1000) (ha : ∀ r ∈ o, r.attrs = []) (hh : Ro.Held o) (hcs : cs.toList = (o.map bare).flatMap cells) (q : Bool) (hq : decide (ros x = o) = q) :
    Calls Tryz.prog 8 #[V, .slice (some ⟨w.heap.size, 0, none⟩) n n] (w.alloc (.cells cs 36)) fun e w' => e = .returned (.bool q) ∧ Below w.heap.size w w' := by
  have ho := rows_new w (o.map bare) cs n (by rw [List.length_map]; exact hn) (by unfold maxLen; omega) hcs (fun y hy => by
    obtain ⟨r, hr, rfl⟩ := List.mem_map.1 hy
    exact ⟨r, rfl, ha r hr⟩)
  refine (refSame1 V _ x (o.map bare) (w.alloc (.cells cs 36)) q (hv.below (below_one w _)) (ho.rv (by rw [ros_bare]; exact hh)) (by omega) (by rw [List.length_map]; omega) (by rw [ros_bare]; exact hq)).mono ?_
  rintro e w' ⟨he, hb⟩
  exact ⟨he, bt (below_one w _) hb⟩

theorem rdy_plain {l : List UInt8} (h : Ch.plain l) : rdy l = l := by unfold rdy; rw [Ch.plain_dL l h, Ch.plain_ln l h]
/-- A call whose argument is plain. -/
theorem ParseP (s : ByteArray) (w : World) (t : List Tk) (o : List Ro) (hs : s.size ≤ 5000) (hT : Tab w) (hp : Ch.plain (L s)) (ht : within [] (L s) = t) (ho : treeB ⟨[], []⟩ t = some o) :
    Calls Tryz.prog 6 #[.string s] w fun e w' => ∃ v y, e = .returned (.tuple #[v, .int .i64 0]) ∧ Rv w' v y ∧ ros y = o ∧ Below w.heap.size w w' := by
  refine (Parse1 s w (some o) hs hT (by rw [rdy_plain hp, ht]; exact ho)).mono ?_
  rintro e w' ⟨⟨v, y, he, hv, hy⟩, hb⟩
  exact ⟨v, y, he, hv, hy, hb⟩
theorem InP (s nm : ByteArray) (w : World) (t : List Tk) (o : List Ro) (hs : s.size ≤ 5000) (hn : nm.size ≤ 140737488351232) (hT : Tab w) (hp : Ch.plain (L s)) (ht : within (L nm) (L s) = t) (ho : treeB ⟨[], []⟩ t = some o) :
    Calls Tryz.prog 4 #[.string s, .string nm] w fun e w' => ∃ v y, e = .returned (.tuple #[v, .int .i64 0]) ∧ Rv w' v y ∧ ros y = o ∧ Below w.heap.size w w' := by
  refine (In1 s nm w (some o) hs hn hT (by rw [rdy_plain hp, ht]; exact ho)).mono ?_
  rintro e w' ⟨⟨v, y, he, hv, hy⟩, hb⟩
  exact ⟨v, y, he, hv, hy, hb⟩
theorem len_of {y : List Cw} {o : List Ro} {n : Nat} (h : ros y = o) (hn : o.length ≤ n) : y.length ≤ n := by rw [← Ro.len_ros, h]; exact hn
theorem nestedLit (n : ByteArray) (w : World) (l : List ByteArray) (k : Nat) (hk : l.length = k) (q : Bool) (hq : nestedB n l = q) (hm : k ≤ 1000) :
    Calls Tryz.prog 17 #[.string n, .slice (some ⟨w.heap.size, 0, none⟩) k k] (w.alloc (.cells (l.map sc).toArray 9)) fun e w' => e = .returned (.bool q) ∧ Below w.heap.size w w' := by
  subst hk
  refine (nested_any n _ l _ (by omega) (sv_lit w l) q hq).mono ?_
  rintro e w' ⟨he, hb⟩
  exact ⟨he, bt (below_one w _) hb⟩
theorem no_attrs {o : List Ro} (h : (o.all fun r => decide (r.attrs = [])) = true) : ∀ r ∈ o, r.attrs = [] := fun r hr => of_decide_eq_true (List.all_eq_true.1 h r hr)
theorem held_of {o : List Ro} (h : (o.all fun r => decide (-9223372036854775808 ≤ r.depth) && decide (r.depth ≤ 9223372036854775807)) = true) : Ro.Held o := fun r hr => by
  have := List.all_eq_true.1 h r hr
  rw [Bool.and_eq_true, decide_eq_true_iff, decide_eq_true_iff] at this
  exact this

set_option maxRecDepth 100000 in
set_option maxHeartbeats 4000000 in
theorem fixed_any (w : World) (hT : Tab w) : Calls Tryz.prog 7 #[] w fun e w' => e = .returned (.bool true) ∧ Below w.heap.size w w' := by
  have HT := Lib.hid hT; clear hT
  go_enter Tryz.func7, Tryz.ntmps7
  go_wp2_with fail
  refine (ParseP _ w _ _ (by decide) HT.out (by unfold Ch.plain; decide) tokA treA).mono ?_
  rintro e w1 ⟨V1, y1, rfl, v1, r1, b1⟩
  go_wp2_with fail
  refine (ParseP _ w1 _ _ (by decide) (HT.out.below b1) (by unfold Ch.plain; decide) tokB treB).mono ?_
  rintro e w2 ⟨V2, y2, rfl, v2, r2, b2⟩
  have B2 := bt b1 b2
  go_wp2_with fail
  refine (ParseP _ w2 _ _ (by decide) (HT.out.below B2) (by unfold Ch.plain; decide) tokC treC).mono ?_
  rintro e w3 ⟨V3, y3, rfl, v3, r3, b3⟩
  have B3 := bt B2 b3
  go_wp2_with fail
  refine (ParseP _ w3 _ _ (by decide) (HT.out.below B3) (by unfold Ch.plain; decide) tokD treD).mono ?_
  rintro e w4 ⟨V4, y4, rfl, v4, r4, b4⟩
  have B4 := bt B3 b4
  go_wp2_with fail
  refine (InP _ _ w4 _ _ (by decide) (by decide) (HT.out.below B4) (by unfold Ch.plain; decide) tokE treE).mono ?_
  rintro e w5 ⟨V5, y5, rfl, v5, r5, b5⟩
  have B5 := bt B4 b5
  have s1 := v1.below (bt b2 (bt b3 (bt b4 b5)))
  have s2 := v2.below (bt b3 (bt b4 b5))
  have s3 := v3.below (bt b4 b5)
  have s4 := v4.below b5
  have S1 := Lib.hid s1; have S2 := Lib.hid s2; have S3 := Lib.hid s3; have S4 := Lib.hid s4; have S5 := Lib.hid v5; have BB5 := Lib.hid B5
  have R1 := Lib.hid r1; have R2 := Lib.hid r2; have R3 := Lib.hid r3; have R4 := Lib.hid r4; have R5 := Lib.hid r5
  clear v1 v2 v3 v4 v5 s1 s2 s3 s4 b1 b2 b3 b4 b5 B2 B3 B4 B5 r1 r2 r3 r4 r5
  go_wp2_with fail
  refine (el_any _ _ w5).mono ?_
  rintro e w6 ⟨rfl, b⟩
  have HB := Lib.hid b; clear b
  go_wp2_with fail
  refine (text_any _ _ w6).mono ?_
  rintro e w7 ⟨rfl, b⟩
  replace HB := Lib.hid (bt HB.out b); clear b
  go_wp2_with fail
  refine (el_any _ _ w7).mono ?_
  rintro e w8 ⟨rfl, b⟩
  replace HB := Lib.hid (bt HB.out b); clear b
  go_wp2_with fail
  refine (text_any _ _ w8).mono ?_
  rintro e w9 ⟨rfl, b⟩
  replace HB := Lib.hid (bt HB.out b); clear b
  go_wp2_with fail
  refine (sameR w9 V1 y1 [rE 0 [112], rT 1 [97], rE 0 [112], rT 1 [98]] _ 4 (S1.out.below HB.out) (len_of R1.out (by decide)) (by decide) (by decide) (no_attrs (by decide)) (held_of (by decide)) (by rfl) true (by rw [R1.out]; simp)).mono ?_
  rintro e w10 ⟨rfl, b⟩
  replace HB := Lib.hid (bt HB.out b); clear b
  go_wp2_with fail
  refine (el_any _ _ w10).mono ?_
  rintro e w11 ⟨rfl, b⟩
  replace HB := Lib.hid (bt HB.out b); clear b
  go_wp2_with fail
  refine (el_any _ _ w11).mono ?_
  rintro e w12 ⟨rfl, b⟩
  replace HB := Lib.hid (bt HB.out b); clear b
  go_wp2_with fail
  refine (text_any _ _ w12).mono ?_
  rintro e w13 ⟨rfl, b⟩
  replace HB := Lib.hid (bt HB.out b); clear b
  go_wp2_with fail
  refine (el_any _ _ w13).mono ?_
  rintro e w14 ⟨rfl, b⟩
  replace HB := Lib.hid (bt HB.out b); clear b
  go_wp2_with fail
  refine (text_any _ _ w14).mono ?_
  rintro e w15 ⟨rfl, b⟩
  replace HB := Lib.hid (bt HB.out b); clear b
  go_wp2_with fail
  refine (text_any _ _ w15).mono ?_
  rintro e w16 ⟨rfl, b⟩
  replace HB := Lib.hid (bt HB.out b); clear b
  go_wp2_with fail
  refine (sameR w16 V2 y2 [rE 0 [117, 108], rE 1 [108, 105], rT 2 [97], rE 1 [108, 105], rT 2 [98], rT 0 [99]] _ 6 (S2.out.below HB.out) (len_of R2.out (by decide)) (by decide) (by decide) (no_attrs (by decide)) (held_of (by decide)) (by rfl) true (by rw [R2.out]; simp)).mono ?_
  rintro e w17 ⟨rfl, b⟩
  replace HB := Lib.hid (bt HB.out b); clear b
  go_wp2_with fail
  refine (el_any _ _ w17).mono ?_
  rintro e w18 ⟨rfl, b⟩
  replace HB := Lib.hid (bt HB.out b); clear b
  go_wp2_with fail
  refine (sameR w18 V3 y3 [rE 0 [112]] _ 1 (S3.out.below HB.out) (len_of R3.out (by decide)) (by decide) (by decide) (no_attrs (by decide)) (held_of (by decide)) (by rfl) true (by rw [R3.out]; simp)).mono ?_
  rintro e w19 ⟨rfl, b⟩
  replace HB := Lib.hid (bt HB.out b); clear b
  go_wp2_with fail
  refine (text_any _ _ w19).mono ?_
  rintro e w20 ⟨rfl, b⟩
  replace HB := Lib.hid (bt HB.out b); clear b
  go_wp2_with fail
  refine (sameR w20 V4 y4 [rT 0 [97, 99]] _ 1 (S4.out.below HB.out) (len_of R4.out (by decide)) (by decide) (by decide) (no_attrs (by decide)) (held_of (by decide)) (by rfl) true (by rw [R4.out]; simp)).mono ?_
  rintro e w21 ⟨rfl, b⟩
  replace HB := Lib.hid (bt HB.out b); clear b
  go_wp2_with fail
  refine (text_any _ _ w21).mono ?_
  rintro e w22 ⟨rfl, b⟩
  replace HB := Lib.hid (bt HB.out b); clear b
  go_wp2_with fail
  refine (sameR w22 V5 y5 [rT 0 [97, 60, 98, 62]] _ 1 (S5.out.below HB.out) (len_of R5.out (by decide)) (by decide) (by decide) (no_attrs (by decide)) (held_of (by decide)) (by rfl) true (by rw [R5.out]; simp)).mono ?_
  rintro e w23 ⟨rfl, b⟩
  replace HB := Lib.hid (bt HB.out b); clear b
  go_wp2_with fail
  refine (nestedLit n_p w23 [n_p, ⟨#[98]⟩] 2 rfl false nesA (by decide)).mono ?_
  rintro e w24 ⟨rfl, b⟩
  replace HB := Lib.hid (bt HB.out b); clear b
  go_wp2_with fail
  refine (nestedLit n_p w24 [n_p, n_td] 2 rfl true nesB (by decide)).mono ?_
  rintro e w25 ⟨rfl, b⟩
  replace HB := Lib.hid (bt HB.out b); clear b
  go_wp2
  go_ret
  exact ⟨rfl, bt BB5.out HB.out⟩

end Go.Proofs.YtdplbcchkjpcdaaGreatDoor.Bu

namespace Go.Proofs.YtdplbcchkjpcdaaGreatDoor.Tm
set_option linter.unusedVariables false
set_option linter.unusedSimpArgs false
open Ba Fm Rm Nm
open Ro (At)
theorem dec_esc_app (q : Bool) (l x : List UInt8) : dec (esc q l ++ x) = l ++ dec x := by
  refine writes q (Q := fun l => dec (esc q l ++ x) = l ++ dec x) (by rw [esc_nil]; rfl) (fun r ih => ?_) (fun c r hc ih => ?_) l
  · rw [esc_nbsp, List.append_assoc]
    refine (dec_ref (b := [110, 98, 115, 112]) (t := [194, 160]) (esc q r ++ x) (by decide) (by decide)).trans ?_
    rw [ih]; rfl
  · rw [esc_byte q hc, List.append_assoc]
    unfold e1
    split
    · rename_i e; subst e
      refine (dec_ref (b := [97, 109, 112]) (t := [38]) (esc q r ++ x) (by decide) (by decide)).trans ?_
      rw [ih]; rfl
    split
    · rename_i e; subst e
      refine (dec_ref (b := [108, 116]) (t := [60]) (esc q r ++ x) (by decide) (by decide)).trans ?_
      rw [ih]; rfl
    split
    · rename_i e; subst e
      refine (dec_ref (b := [103, 116]) (t := [62]) (esc q r ++ x) (by decide) (by decide)).trans ?_
      rw [ih]; rfl
    split
    · rename_i e; obtain ⟨rfl, _⟩ := e
      refine (dec_ref (b := [113, 117, 111, 116]) (t := [34]) (esc q r ++ x) (by decide) (by decide)).trans ?_
      rw [ih]; rfl
    · rename_i h _ _ _
      refine (dec_byte (esc q r ++ x) h).trans ?_
      rw [ih]; rfl

/-- A tag's name, as it is cut. -/
def nmOk (n : List UInt8) : Prop := by1 lr n = true ∧ ∀ c ∈ n, en c = false ∧ low c = c
/-- An attribute's name, as it is cut. -/
def aOk (a : At) : Prop := ∃ c t, L a.name = c :: t ∧ c ≠ 62 ∧ c ≠ 47 ∧ sp c = false ∧ low c = c ∧ ∀ x ∈ t, ea x = false ∧ low x = x
def asOk (l : List At) : Prop := (∀ a ∈ l, aOk a) ∧ l.Pairwise fun a b => a.name ≠ b.name
/-- A written text: decoded it is this, whatever stands behind it; it begins nothing. -/
def Clo (e p : List UInt8) : Prop := (60 : UInt8) ∉ e ∧ ∀ x, dec (e ++ x) = p ++ dec x
theorem Clo.esc {e p : List UInt8} (h : Clo e p) (d : List UInt8) : Clo (e ++ esc false d) (p ++ d) :=
  ⟨fun c => (List.mem_append.1 c).elim h.1 (esc_free false d).1, fun x => by rw [List.append_assoc, h.2, dec_esc_app, List.append_assoc]⟩
theorem Clo.dec {e p : List UInt8} (h : Clo e p) : dec e = p := by
  have := h.2 []
  rwa [List.append_nil, Rm.dec_nil, List.append_nil] at this
/-- An element of this name has text alone. -/
def softOr (n : List UInt8) : Bool := rawB n || softB n
/-- Lists of tokens as a document has them. -/
inductive Good : List Tk → Prop
  | nil : Good []
  | text (d : List UInt8) (r : List Tk) : d ≠ [] → Good r → Good (tx d :: r)
  | comment (d : List UInt8) (r : List Tk) : (∀ x, comm (d ++ ([45, 45, 62] ++ x)) = (d, x)) → Good r → Good (⟨3, B [], B d, [], false⟩ :: r)
  | doctype (d : List UInt8) (r : List Tk) : (62 : UInt8) ∉ d → trimL d = d → Good r → Good (⟨4, B [], B d, [], false⟩ :: r)
  | end_ (n : List UInt8) (r : List Tk) : nmOk n → Good r → Good (⟨2, B n, B [], [], false⟩ :: r)
  | start (n : List UInt8) (l : List At) (sf : Bool) (r : List Tk) : nmOk n → asOk l → softOr n = false → Good r → Good (⟨1, B n, B [], l, sf⟩ :: r)
  | raw (n : List UInt8) (l : List At) (sf : Bool) (d : List UInt8) (r : List Tk) : nmOk n → asOk l → rawB n = true → d ≠ [] → lead (isEnd n) (d ++ wAll false r) = d → trail (isEnd n) (d ++ wAll false r) = wAll false r → Good r → Good (⟨1, B n, B [], l, sf⟩ :: tx d :: r)
  | soft (n : List UInt8) (l : List At) (sf : Bool) (d : List UInt8) (r : List Tk) : nmOk n → asOk l → rawB n = false → softB n = true → d ≠ [] → lead (isEnd n) (esc false d ++ wAll false r) = esc false d → trail (isEnd n) (esc false d ++ wAll false r) = wAll false r → Good r → Good (⟨1, B n, B [], l, sf⟩ :: tx d :: r)
  | none_ (n : List UInt8) (l : List At) (sf : Bool) (r : List Tk) : nmOk n → asOk l → softOr n = true → (∀ d q, r ≠ tx d :: q) → wAll true r = wAll false r → lead (isEnd n) (wAll false r) = [] → trail (isEnd n) (wAll false r) = wAll false r → Good r → Good (⟨1, B n, B [], l, sf⟩ :: r)

end Go.Proofs.YtdplbcchkjpcdaaGreatDoor.Tm

namespace Go.Proofs.YtdplbcchkjpcdaaGreatDoor.Tm
set_option linter.unusedVariables false
set_option linter.unusedSimpArgs false
open Ba Fm Rm Nm
open Ro (At)
theorem u8_ext {a b : UInt8} (h : a.toNat = b.toNat) : a = b := UInt8.toNat.inj h
theorem lr_no {c : UInt8} (h : lr c = true) : en c = false := by
  have e : ∀ k : UInt8, lr k = false → (c == k) = false := fun k hk => by
    rw [beq_eq_false_iff_ne]
    intro e
    rw [e, hk] at h
    cases h
  unfold en ev sp
  rw [e 47 (by decide), e 62 (by decide), e 32 (by decide), e 9 (by decide), e 10 (by decide), e 12 (by decide), e 13 (by decide)]
  rfl
end Go.Proofs.YtdplbcchkjpcdaaGreatDoor.Tm

namespace Go.Proofs.YtdplbcchkjpcdaaGreatDoor.Tm
set_option linter.unusedVariables false
set_option linter.unusedSimpArgs false
open Ba Fm Rm Nm
open Ro (At)
theorem cont_r {n l : List UInt8} (h : rawB n = true) : cont n l = (txt (lead (isEnd n) l), trail (isEnd n) l) := by unfold cont; rw [if_pos h]
theorem cont_s {n l : List UInt8} (h : rawB n = false) (h' : softB n = true) : cont n l = (txt (dec (lead (isEnd n) l)), trail (isEnd n) l) := by unfold cont; rw [if_neg (by rw [h]; simp), if_pos h']
theorem cont_n {n l : List UInt8} (h : softOr n = false) : cont n l = ([], l) := by
  unfold softOr at h
  rw [Bool.or_eq_false_iff] at h
  unfold cont
  rw [if_neg (by rw [h.1]; simp), if_neg (by rw [h.2]; simp)]
end Go.Proofs.YtdplbcchkjpcdaaGreatDoor.Tm

namespace Go.Proofs.YtdplbcchkjpcdaaGreatDoor.Bm
set_option linter.unusedVariables false
set_option linter.unusedSimpArgs false
open Ba Fm Rm Nm
open Ro (At Ro)
open Tm (Tk put cut txt tx nmOk softOr Clo begun mk startTag endTag cont_n)
end Go.Proofs.YtdplbcchkjpcdaaGreatDoor.Bm

namespace Go.Proofs.YtdplbcchkjpcdaaGreatDoor.Bm
set_option linter.unusedVariables false
set_option linter.unusedSimpArgs false
open Ba Fm Rm Nm
open Ro (At Ro)
open Tm (Tk put cut txt tx nmOk softOr within cont rawB isEnd lead trail cont_r)
/-- A text as a row. -/
abbrev rowT (d : Int) (s : List UInt8) : Ro := ⟨d, 1, ⟨#[]⟩, B s, []⟩
abbrev rowE (d : Int) (n : List UInt8) : Ro := ⟨d, 0, B n, ⟨#[]⟩, []⟩
/-- Elements with a text each, one behind the other. -/
def parts (x : List UInt8) : List (List UInt8) → List UInt8
  | [] => []
  | n :: r => 60 :: (n ++ 62 :: (x ++ 60 :: 47 :: (n ++ 62 :: parts x r)))
def partsR (x : List UInt8) (l : List (List UInt8)) : List Ro := l.flatMap fun n => [rowE 0 n, rowT 1 x]
end Go.Proofs.YtdplbcchkjpcdaaGreatDoor.Bm

namespace Go.Proofs.YtdplbcchkjpcdaaGreatDoor.Bm
set_option linter.unusedVariables false
set_option linter.unusedSimpArgs false
open Ba Fm Rm Nm
open Ro (At Ro)
open Tm (Tk put cut txt tx within cont mk turn startTag endTag trail lead attrs from_ by1 en bg upTo)
end Go.Proofs.YtdplbcchkjpcdaaGreatDoor.Bm

namespace Go.Proofs.YtdplbcchkjpcdaaGreatDoor.Bm
set_option linter.unusedVariables false
set_option linter.unusedSimpArgs false
open Ba Fm Rm Nm
open Ro (At Ro)
open Tm (Tk put cut txt tx within cont mk turn startTag endTag trail lead attrs from_ by1 en bg upTo attr valued value quo ea)
end Go.Proofs.YtdplbcchkjpcdaaGreatDoor.Bm

namespace Go.Proofs.YtdplbcchkjpcdaaGreatDoor.Na
set_option linter.unusedSimpArgs false
set_option linter.unusedVariables false
open Go.RowKit Ba Fm Fo Nm
end Go.Proofs.YtdplbcchkjpcdaaGreatDoor.Na

namespace Go.Proofs.YtdplbcchkjpcdaaGreatDoor.Sm
set_option maxRecDepth 100000
set_option linter.unusedSimpArgs false
set_option linter.unusedVariables false
open Go.RowKit Ba
theorem min_any (x : Nat) (m : Nat) (M : Int) (hM : M = m) (w : World) : ∃ k : Nat, k ≤ x ∧ k ≤ m ∧ k = min x m ∧ ∀ ts t, (Builtin.min_ ts t #[.int .i64 x, .int .i64 M]).run Tryz.prog w = .ok (.int .i64 k) w := by
  refine ⟨min x m, by omega, by omega, rfl, fun ts t => ?_⟩
  rw [run_min_int2]
  congr 2
  split <;> omega
theorem size_take (s : ByteArray) (k : Nat) (h : k ≤ s.size) : (s.extract 0 k).size = k := by
  rw [← size_L, L_extract, List.length_take, List.drop_zero, size_L]; omega

end Go.Proofs.YtdplbcchkjpcdaaGreatDoor.Sm

namespace Go.Proofs.YtdplbcchkjpcdaaGreatDoor.Bu
set_option maxRecDepth 100000
set_option linter.unusedVariables false
set_option linter.unusedSimpArgs false
open Go.RowKit Ba Fm Fo Nm Bm Sm
open Ro (At Ro Cw ros Fr Ow Rv Rr bare rows_new cells Few Held)
open Tm (Tk within tx txt cut cont nmOk softOr rawB softB)
open Re (Tab)
/-! Mathematics. -/
/-- A name of letters. -/
def lettersB (n : ByteArray) : Prop := ∀ c ∈ L n, 97 ≤ c.toNat ∧ c.toNat ≤ 122
theorem letter_lr {c : UInt8} (h : 97 ≤ c.toNat ∧ c.toNat ≤ 122) : lr c = true := by
  unfold lr
  have e97 : (97 : UInt8).toNat = 97 := rfl
  have e122 : (122 : UInt8).toNat = 122 := rfl
  rw [Bool.or_eq_true]
  right
  rw [Bool.and_eq_true, decide_eq_true_iff, decide_eq_true_iff, UInt8.le_iff_toNat_le, UInt8.le_iff_toNat_le]
  omega
theorem letter_low {c : UInt8} (h : 97 ≤ c.toNat ∧ c.toNat ≤ 122) : low c = c := by
  unfold low
  rw [if_neg]
  rw [UInt8.le_iff_toNat_le, UInt8.le_iff_toNat_le]
  have e90 : (90 : UInt8).toNat = 90 := rfl
  omega
theorem nm_letters {n : List UInt8} (hn : n ≠ []) (h : ∀ c ∈ n, 97 ≤ c.toNat ∧ c.toNat ≤ 122) : nmOk n := by
  refine ⟨?_, fun c hc => ⟨Tm.lr_no (letter_lr (h c hc)), letter_low (h c hc)⟩⟩
  cases n with
  | nil => exact absurd rfl hn
  | cons c r => exact letter_lr (h c List.mem_cons_self)
/-- A name that the law takes. -/
structure Takes (n : ByteArray) : Prop where
  size : n.size ≤ 40
  some : n ≠ ⟨#[]⟩
  open_ : isIn n voidL = false
  raw : isIn n rawL = false
  soft : isIn n softL = false
  here : isIn n goneL = false
  free : closesL n = []
  letters : lettersB n
theorem Takes.name {n : ByteArray} (h : Takes n) : nmOk (L n) ∧ softOr (L n) = false := by
  refine ⟨nm_letters (fun e => h.some (L_inj e)) h.letters, ?_⟩
  unfold softOr rawB softB
  rw [B_L, h.raw, h.soft]
  rfl
abbrev X1 : List UInt8 := [120]
theorem parts_snoc (x n : List UInt8) : ∀ l, parts x (l ++ [n]) = parts x l ++ (60 :: (n ++ 62 :: (x ++ 60 :: 47 :: (n ++ [62]))))
  | [] => rfl
  | m :: l => by
    show 60 :: (m ++ 62 :: (x ++ 60 :: 47 :: (m ++ 62 :: parts x (l ++ [n])))) = 60 :: (m ++ 62 :: (x ++ 60 :: 47 :: (m ++ 62 :: parts x l))) ++ _
    rw [parts_snoc x n l]
    simp
theorem partsR_snoc (x n : List UInt8) (l : List (List UInt8)) : partsR x (l ++ [n]) = partsR x l ++ [rowE 0 n, rowT 1 x] := by
  unfold partsR
  rw [List.flatMap_append]
  rfl
/-! Walks. -/
/-- What the loop keeps. -/
structure Kept (N : Nat) (l : List ByteArray) (k : Nat) (w0 wr : World) (t : ByteArray) (v : Value) (ns : List ByteArray) (y : List Cw) : Prop where
  len : k ≤ l.length
  few : k ≤ 20
  takes : ∀ n ∈ ns, Takes n
  cnt : ns.length ≤ k
  text : L t = parts X1 (ns.map L)
  own : Ow N wr v y
  rows : ros y = partsR X1 (ns.map L)
  below : Below N w0 wr
theorem Kept.next {N : Nat} {l : List ByteArray} {k : Nat} {w0 wr w1 : World} {t : ByteArray} {v : Value} {ns : List ByteArray} {y : List Cw} (h : Kept N l k w0 wr t v ns y) (hN : N = w0.heap.size) (h1 : k < l.length) (h2 : k < 20) (hb : Below wr.heap.size wr w1) : Kept N l (k + 1) w0 w1 t v ns y :=
  ⟨h1, h2, h.takes, Nat.le_succ_of_le h.cnt, h.text, h.own.below hb, h.rows, by subst hN; exact bt h.below hb⟩
theorem Kept.more {N : Nat} {l : List ByteArray} {k : Nat} {w0 wr w1 : World} {t n : ByteArray} {v v1 : Value} {ns : List ByteArray} {y : List Cw} (h : Kept N l k w0 wr t v ns y) (h1 : k < l.length) (h2 : k < 20) (hn : Takes n) (ho : Ow N w1 v1 (y ++ [(rowE 0 (L n)), (rowT 1 X1)].map bare)) (hb : Below N w0 w1) :
    Kept N l (k + 1) w0 w1 (t ++ (⟨#[60]⟩ ++ n ++ ⟨#[62, 120, 60, 47]⟩ ++ n ++ ⟨#[62]⟩)) v1 (ns ++ [n]) (y ++ [(rowE 0 (L n)), (rowT 1 X1)].map bare) := by
  refine ⟨h1, h2, fun m hm => ?_, by rw [List.length_append]; have := h.cnt; simp; omega, ?_, ho, ?_, hb⟩
  · rcases List.mem_append.1 hm with e | e
    · exact h.takes m e
    · rw [List.mem_singleton.1 e]; exact hn
  · rw [List.map_append, List.map_cons, List.map_nil, parts_snoc, ← h.text]
    simp only [L_append]
    show L t ++ ([60] ++ L n ++ [62, 120, 60, 47] ++ L n ++ [62]) = _
    simp
  · rw [show (ns ++ [n]).map L = ns.map L ++ [L n] from by simp, partsR_snoc, ← h.rows]
    unfold ros
    rw [List.map_append]
    rfl

/-- A row written down is put behind one's own: nothing else changes. -/
theorem app_keep {ops : Array Oper} {rest : List Oper} {o : Oper} {a : Act} {Q : Exit → Act → World → Prop} (w : World) (hgd : o.guard = none) (s x : Operand)
    (ho : o.op = .call { callee := .builtin .append, args := #[s, x], argTypes := #[22, 22] })
    (N : Nat) (v : Value) (l : List Cw) (y : Ro) (hs : a.eval s = v) (hown : Ow N w v l) (hy : y.attrs = []) (hx : a.eval x = .slice (some ⟨w.heap.size, 0, none⟩) 1 1)
    (hl : l.length ≤ 1000000) (hN : N ≤ w.heap.size)
    (h : ∀ v' w', Ow N w' v' (l ++ [bare y]) → (∀ w0, Below N w0 w → Below N w0 w') → (w.alloc (Ro.rowO (bare y))).grownBy w' v.ownBlock → wpList Tryz.prog ops Q rest (a.put o.dst v') w') :
    wpList Tryz.prog ops Q (o :: rest) a (w.alloc (Ro.rowO (bare y))) := by
  obtain ⟨i0, hi, hz0, hz1, hz2⟩ := info_parts Ro.info_row
  have hown' : Ow N (w.alloc (Ro.rowO (bare y))) v l := hown.alloc _
  have hsz : (w.alloc (Ro.rowO (bare y))).heap.size = w.heap.size + 1 := by simp
  refine wpList_append_own _ hgd s x 22 ho N 36 i0 _ 5 72 Tryz.underlying22 hi hz0 hz1 hz2 rfl (by decide) v l.length (l.flatMap cells) hs hown'.1 ⟨w.heap.size, 0, none⟩ 1 1 (cells (bare y)) hx rfl (Ro.row_cells_new w (bare y)) (Ro.cells_one (bare y)) (by unfold maxLen; omega) (by omega) (by omega) ?_
  intro v' w' ho2 hg2 _
  have hk : ∀ w0, Below N w0 w → Below N w0 w' := fun w0 hb => (hb.alloc hN _).grown hg2 (by omega) fun k hk => (World.ownsRow.lt hown'.1 k hk).1
  refine h v' w' ⟨?_, ?_⟩ hk hg2
  · rw [List.length_append, List.flatMap_append]
    simpa using ho2
  · intro z hz
    rcases List.mem_append.1 hz with hz | hz
    · exact ⟨(hown'.2 z hz).1.grown hown'.1 hg2 (hown'.2 z hz).2, (hown'.2 z hz).2.grown hown'.1 hg2⟩
    · obtain rfl := List.mem_singleton.1 hz
      have h1 : Ro.Att (w.alloc (Ro.rowO (bare y))) (w.alloc (Ro.rowO (bare y))).heap.size (bare y) := Ro.bare_att _ _ hy
      have h2 : Ro.Ap (w.alloc (Ro.rowO (bare y))) N (bare y) := Ro.bare_ap _ _ hy
      exact ⟨h1.grown hown'.1 hg2 h2, h2.grown hown'.1 hg2⟩

end Go.Proofs.YtdplbcchkjpcdaaGreatDoor.Bu

namespace Go.Proofs.YtdplbcchkjpcdaaGreatDoor.Bu
set_option maxRecDepth 100000
set_option linter.unusedVariables false
set_option linter.unusedSimpArgs false
open Go.RowKit Ba Fm Fo Nm Bm
open Ro (At Ro Cw ros Fr Ow Rv bare cells rowO box_new range5)
theorem app_keep2 {ops : Array Oper} {rest : List Oper} {o : Oper} {a : Act} {Q : Exit → Act → World → Prop} (w : World) (hgd : o.guard = none) (s x : Operand)
    (ho : o.op = .call { callee := .builtin .append, args := #[s, x], argTypes := #[22, 22] })
    (N : Nat) (v : Value) (l : List Cw) (y : Ro) (g : Nat) (hg : g = w.heap.size) (hs : a.eval s = v) (hown : Ow N w v l) (hy : y.attrs = []) (hx : a.eval x = .slice (some ⟨g, 0, none⟩) 1 1)
    (hl : l.length ≤ 1000000) (hN : N ≤ w.heap.size)
    (h : ∀ v' w', Ow N w' v' (l ++ [bare y]) → (∀ w0, Below N w0 w → Below N w0 w') → (w.alloc (Ro.rowO (bare y))).grownBy w' v.ownBlock → wpList Tryz.prog ops Q rest (a.put o.dst v') w') :
    wpList Tryz.prog ops Q (o :: rest) a (w.alloc (Ro.rowO (bare y))) := by
  subst hg
  exact app_keep w hgd s x ho N v l y hs hown hy hx hl hN h
/-- A text as a row. -/
abbrev txR (d : Int) (t : ByteArray) : Ro := ⟨d, 1, ⟨#[]⟩, t, []⟩
/-- What joined does. -/
def JoinSays (N : Nat) (w : World) (V : Value) (l : List Cw) (d : Int) (t : ByteArray) (e : Ending) (w' : World) : Prop :=
  ∃ v l', e = .returned v ∧ Ow N w' v l' ∧ ros l' = addText (ros l) d t ∧ w.grownBy w' V.ownBlock
theorem add_nil (d : Int) (t : ByteArray) : addText [] d t = [txR d t] := rfl
theorem add_join {o : List Ro} {y : Ro} {d : Int} {t : ByteArray} (h : y.kind = 1 ∧ y.depth = d) : addText (o ++ [y]) d t = o ++ [⟨y.depth, y.kind, y.name, y.data ++ t, y.attrs⟩] := by
  unfold addText
  rw [List.getLast?_concat, List.dropLast_concat]
  exact if_pos h
theorem add_more {o : List Ro} {y : Ro} {d : Int} {t : ByteArray} (h : ¬ (y.kind = 1 ∧ y.depth = d)) : addText (o ++ [y]) d t = o ++ [y] ++ [txR d t] := by
  unfold addText
  rw [List.getLast?_concat]
  exact if_neg h
theorem ros_bare1 (l : List Cw) (r : Ro) : ros (l ++ [bare r]) = ros l ++ [r] := by unfold ros; rw [List.map_append]; rfl
theorem g_start (w : World) (o : Obj) (n : Nat) (row : Option Nat) : w.grownBy ((w.alloc o).drewN n) row := (World.grownBy_alloc w o row).trans (g_dN _ n _)

set_option maxRecDepth 100000 in
set_option maxHeartbeats 4000000 in
theorem refJoined_any (N : Nat) (V : Value) (l : List Cw) (d : Int) (t : ByteArray) (w : World) (ho : Ow N w V l) (hN : N ≤ w.heap.size) (hl : l.length ≤ 1000000) (hs : ∀ y, (ros l).getLast? = some y → y.data.size + t.size ≤ 140737488351232) :
    Calls Tryz.prog 30 #[V, .agg #[.int .i64 d, .int .i64 1, .string ⟨#[]⟩, .string t, .slice none 0 0]] w fun e w' => JoinSays N w V l d t e w' := by
  have HO := Lib.hid ho
  obtain ⟨c0', _, _, c3', _, _⟩ := box_new w (bare (txR d t))
  have c0 : (w.alloc (.cells #[.int .i64 d, .int .i64 1, .string ⟨#[]⟩, .string t, .slice none 0 0] 36)).cell? ⟨w.heap.size, 0, none⟩ = some (.int .i64 d) := c0'
  have c3 : (w.alloc (.cells #[.int .i64 d, .int .i64 1, .string ⟨#[]⟩, .string t, .slice none 0 0] 36)).cell? ⟨w.heap.size, 3, none⟩ = some (.string t) := c3'
  clear c0' c3'
  rcases List.eq_nil_or_concat l with hacc | ⟨init, y, hacc⟩
  · subst hacc
    obtain ⟨A, c, hV, hc, hcm, _, _⟩ := ho.form
    subst hV
    clear ho hs
    go_enter Tryz.func30, Tryz.ntmps30
    have hz : decide (0 < 0) = false := rfl
    go_wp2
    go_quiet (fail)
    have HO2 := Lib.hid ((HO.out.alloc (rowO (bare (txR d t)))).below (below_dN (Below.refl _ _) nq))
    have HG := Lib.hid (g_start w (rowO (bare (txR d t))) nq (Value.slice A ([] : List Cw).length c).ownBlock)
    go_wp2_with (at_builtin; refine app_keep2 _ rfl (.tmp 48) (.tmp 50) rfl N _ [] (txR d t) (w.heap.size + 1) (by simp) rfl (by exact HO2.out) rfl rfl (by simp) (by simp; omega) ?_; intro v4 w4 hown4 hk4 hg4)
    go_ret
    exact ⟨v4, [bare (txR d t)], rfl, hown4, by rw [show ros ([] : List Cw) = [] from rfl, add_nil]; rfl, HG.out.trans ((World.grownBy_alloc _ _ _).trans hg4)⟩
  · rw [List.concat_eq_append] at hacc
    subst hacc
    obtain ⟨g, cap, hv, hcap, hcm, hg1, hg2, hyc⟩ := ho.pos
    subst hv
    unfold maxLen at hcm
    obtain ⟨y0, y1, y2, y3, y4⟩ := range5 (v0 := .int .i64 y.ro.depth) (v1 := .int .i64 y.ro.kind) (v2 := .string y.ro.name) (v3 := .string y.ro.data) (v4 := .slice y.A y.ro.attrs.length y.c) hyc
    have z0 : (w.alloc (.cells #[.int .i64 d, .int .i64 1, .string ⟨#[]⟩, .string t, .slice none 0 0] 36)).cell? ⟨g, init.length * 5, none⟩ = some (.int .i64 y.ro.depth) := (Ro.below_new w (.cells #[.int .i64 d, .int .i64 1, .string ⟨#[]⟩, .string t, .slice none 0 0] 36)).cell (p := ⟨g, init.length * 5, none⟩) hg2 |>.trans y0
    have z1 : (w.alloc (.cells #[.int .i64 d, .int .i64 1, .string ⟨#[]⟩, .string t, .slice none 0 0] 36)).cell? ⟨g, init.length * 5 + 1, none⟩ = some (.int .i64 y.ro.kind) := (Ro.below_new w (.cells #[.int .i64 d, .int .i64 1, .string ⟨#[]⟩, .string t, .slice none 0 0] 36)).cell (p := ⟨g, init.length * 5 + 1, none⟩) hg2 |>.trans y1
    have hil : init.length ≤ 1000000 := by rw [List.length_append] at hl; simp at hl; omega
    have hlen : (init ++ [y]).length = init.length + 1 := by simp
    have HS := Lib.hid (show y.ro.data.size + t.size ≤ 140737488351232 from hs y.ro (by unfold ros; rw [List.map_append, List.map_cons, List.map_nil, List.getLast?_concat]))
    have HY := Lib.hid hyc
    have HRO := Lib.hid (show ros (init ++ [y]) = ros init ++ [y.ro] from Ro.ros_append _ _)
    clear ho hs y0 y1 y2 y3 y4 hyc
    cases hyk : y.ro.kind == 1 with
    | false =>
      have HA := Lib.hid (add_more (o := ros init) (y := y.ro) (d := d) (t := t) (fun h => beq_eq_false_iff_ne.1 hyk h.1))
      go_enter Tryz.func30, Tryz.ntmps30
      go_wp2
      go_quiet (fail)
      have HO2 := Lib.hid ((HO.out.alloc (rowO (bare (txR d t)))).below (below_dN (Below.refl _ _) nq))
      have HG := Lib.hid (g_start w (rowO (bare (txR d t))) nq (some g))
      go_wp2_with (at_builtin; refine app_keep2 _ rfl (.tmp 48) (.tmp 50) rfl N _ (init ++ [y]) (txR d t) (w.heap.size + 1) (by simp) rfl (by exact HO2.out) rfl rfl (by rw [hlen]; omega) (by simp; omega) ?_; intro v4 w4 hown4 hk4 hg4)
      go_ret
      exact ⟨v4, _, rfl, hown4, by rw [ros_bare1, HRO.out, HA.out], HG.out.trans ((World.grownBy_alloc _ _ _).trans hg4)⟩
    | true =>
      cases hyd : y.ro.depth == d with
      | false =>
        have HA := Lib.hid (add_more (o := ros init) (y := y.ro) (d := d) (t := t) (fun h => beq_eq_false_iff_ne.1 hyd h.2))
        go_enter Tryz.func30, Tryz.ntmps30
        go_wp2
        go_quiet (fail)
        have HO2 := Lib.hid ((HO.out.alloc (rowO (bare (txR d t)))).below (below_dN (Below.refl _ _) nq))
        have HG := Lib.hid (g_start w (rowO (bare (txR d t))) nq (some g))
        go_wp2_with (at_builtin; refine app_keep2 _ rfl (.tmp 48) (.tmp 50) rfl N _ (init ++ [y]) (txR d t) (w.heap.size + 1) (by simp) rfl (by exact HO2.out) rfl rfl (by rw [hlen]; omega) (by simp; omega) ?_; intro v4 w4 hown4 hk4 hg4)
        go_ret
        exact ⟨v4, _, rfl, hown4, by rw [ros_bare1, HRO.out, HA.out], HG.out.trans ((World.grownBy_alloc _ _ _).trans hg4)⟩
      | true =>
        have HA := Lib.hid (add_join (o := ros init) (y := y.ro) (d := d) (t := t) ⟨beq_iff_eq.1 hyk, beq_iff_eq.1 hyd⟩)
        have HYA := Lib.hid (HO.out.2 y (by simp))
        go_enter Tryz.func30, Tryz.ntmps30
        go_wp2
        go_quiet (fail)
        obtain ⟨w2, hw2⟩ : ∃ w2, (w.alloc (.cells #[.int .i64 d, .int .i64 1, .string ⟨#[]⟩, .string t, .slice none 0 0] 36)).drewN nq = w2 := ⟨_, rfl⟩
        have hb12 : Below w.heap.size w w2 := hw2 ▸ below_dN (Ro.below_new w (.cells #[.int .i64 d, .int .i64 1, .string ⟨#[]⟩, .string t, .slice none 0 0] 36)) nq
        have hs12 : w2.heap.size = w.heap.size + 1 := by rw [← hw2]; show (w.alloc (.cells #[.int .i64 d, .int .i64 1, .string ⟨#[]⟩, .string t, .slice none 0 0] 36)).heap.size = _; simp
        have hyr : w2.rangeAt g (init.length * 5) [.int .i64 y.ro.depth, .int .i64 y.ro.kind, .string y.ro.name, .string y.ro.data, .slice y.A y.ro.attrs.length y.c] := Ro.range_keep HY.out (fun o => hb12.cell (p := ⟨g, o, none⟩) hg2)
        have hx3 : w2.cell? ⟨w.heap.size, 3, none⟩ = some (.string t) := hw2 ▸ c3
        rw [hw2]
        have HG2 := Lib.hid (show w.grownBy w2 (some g) from hw2 ▸ g_start w (.cells #[.int .i64 d, .int .i64 1, .string ⟨#[]⟩, .string t, .slice none 0 0] 36) nq (some g))
        clear hw2 c0 c3 z0 z1
        have HB12 := Lib.hid hb12; have HS12 := Lib.hid hs12
        clear hb12 hs12
        have HO2 := Lib.hid (HO.out.below HB12.out)
        obtain ⟨b0, b1, b2, b3, b4, bf⟩ := box_new w2 y
        have c0 : (w2.alloc (.cells #[.int .i64 y.ro.depth, .int .i64 y.ro.kind, .string y.ro.name, .string y.ro.data, .slice y.A y.ro.attrs.length y.c] 36)).cell? ⟨w2.heap.size, 0, none⟩ = some (.int .i64 y.ro.depth) := b0
        have c1 : (w2.alloc (.cells #[.int .i64 y.ro.depth, .int .i64 y.ro.kind, .string y.ro.name, .string y.ro.data, .slice y.A y.ro.attrs.length y.c] 36)).cell? ⟨w2.heap.size, 1, none⟩ = some (.int .i64 y.ro.kind) := b1
        have c2 : (w2.alloc (.cells #[.int .i64 y.ro.depth, .int .i64 y.ro.kind, .string y.ro.name, .string y.ro.data, .slice y.A y.ro.attrs.length y.c] 36)).cell? ⟨w2.heap.size, 2, none⟩ = some (.string y.ro.name) := b2
        have c3 : (w2.alloc (.cells #[.int .i64 y.ro.depth, .int .i64 y.ro.kind, .string y.ro.name, .string y.ro.data, .slice y.A y.ro.attrs.length y.c] 36)).cell? ⟨w2.heap.size, 3, none⟩ = some (.string y.ro.data) := b3
        have c4 : (w2.alloc (.cells #[.int .i64 y.ro.depth, .int .i64 y.ro.kind, .string y.ro.name, .string y.ro.data, .slice y.A y.ro.attrs.length y.c] 36)).cell? ⟨w2.heap.size, 4, none⟩ = some (.slice y.A y.ro.attrs.length y.c) := b4
        have cf3 : (w2.alloc (.cells #[.int .i64 y.ro.depth, .int .i64 y.ro.kind, .string y.ro.name, .string y.ro.data, .slice y.A y.ro.attrs.length y.c] 36)).frozen? ⟨w2.heap.size, 3, none⟩ = false := bf 3
        have hx3' : (w2.alloc (.cells #[.int .i64 y.ro.depth, .int .i64 y.ro.kind, .string y.ro.name, .string y.ro.data, .slice y.A y.ro.attrs.length y.c] 36)).cell? ⟨w.heap.size, 3, none⟩ = some (.string t) := (World.cell?_alloc_some w2 _ _ (by rw [hx3]; rfl)).trans hx3
        have hB4 : Below w2.heap.size w2 (w2.alloc (.cells #[.int .i64 y.ro.depth, .int .i64 y.ro.kind, .string y.ro.name, .string (y.ro.data ++ t), .slice y.A y.ro.attrs.length y.c] 36)) := Ro.below_new w2 (.cells #[.int .i64 y.ro.depth, .int .i64 y.ro.kind, .string y.ro.name, .string (y.ro.data ++ t), .slice y.A y.ro.attrs.length y.c] 36)
        have HB4 := Lib.hid hB4
        have HO5 := Lib.hid (HO2.out.below hB4)
        have HT : Hid ((w2.alloc (.cells #[.int .i64 y.ro.depth, .int .i64 y.ro.kind, .string y.ro.name, .string (y.ro.data ++ t), .slice y.A y.ro.attrs.length y.c] 36)).there g (init.length * 5) (#[.int .i64 y.ro.depth, .int .i64 y.ro.kind, .string y.ro.name, .string (y.ro.data ++ t), .slice y.A y.ro.attrs.length y.c] : Array Value).size) := Lib.hid (Ro.Ow.there HO5.out)
        have H1 : Hid ((#[.int .i64 y.ro.depth, .int .i64 y.ro.kind, .string y.ro.name, .string (y.ro.data ++ t), .slice y.A y.ro.attrs.length y.c] : Array Value).all (·.oneCell') = true) := Lib.hid (Ro.one5 _ _ _ _ _ _ _)
        have hb2 := HS.out
        have hb3 : ¬ (y.ro.data.size + t.size > 9223372036854775807) := by omega
        clear hB4 b0 b1 b2 b3 b4 bf hx3
        go_wp2_with (first
          | (refine wpList_load_mid rfl 36 (.tmp 34) rfl g (init.length * 5) rfl _ _ hyr Tryz.underlying36 rfl Ro.size_row ?_)
          | (show wpList _ _ _ (⟨none, Op.store 36 (.tmp 46) (.tmp 45), _, _, _, _⟩ :: _) _ _; go_loud (refine wpList_store_mid rfl 36 (.tmp 46) (.tmp 45) rfl g (init.length * 5) #[.int .i64 y.ro.depth, .int .i64 y.ro.kind, .string y.ro.name, .string (y.ro.data ++ t), .slice y.A y.ro.attrs.length y.c] rfl rfl HT.out Ro.size_row H1.out ?_)))
        have hat5 : Ro.Att (w2.alloc (.cells #[.int .i64 y.ro.depth, .int .i64 y.ro.kind, .string y.ro.name, .string (y.ro.data ++ t), .slice y.A y.ro.attrs.length y.c] 36)) (w2.alloc (.cells #[.int .i64 y.ro.depth, .int .i64 y.ro.kind, .string y.ro.name, .string (y.ro.data ++ t), .slice y.A y.ro.attrs.length y.c] 36)).heap.size (Ro.joinRow y (bare (txR d t))) := (((show Ro.Att w w.heap.size (Ro.joinRow y (bare (txR d t))) from HYA.out.1).below HB12.out).more HB12.out.size |>.below HB4.out).more HB4.out.size
        have hap5 : Ro.Ap (w2.alloc (.cells #[.int .i64 y.ro.depth, .int .i64 y.ro.kind, .string y.ro.name, .string (y.ro.data ++ t), .slice y.A y.ro.attrs.length y.c] 36)) N (Ro.joinRow y (bare (txR d t))) := ((show Ro.Ap w N (Ro.joinRow y (bare (txR d t))) from HYA.out.2).below HB12.out).below HB4.out
        obtain ⟨ho6, hg6⟩ := HO5.out.last hat5 hap5
        have HO6 := Lib.hid ho6; have HG6 := Lib.hid ((HG2.out.trans (World.grownBy_alloc w2 (.cells #[.int .i64 y.ro.depth, .int .i64 y.ro.kind, .string y.ro.name, .string (y.ro.data ++ t), .slice y.A y.ro.attrs.length y.c] 36) (some g))).trans hg6)
        clear ho6 hg6 hat5 hap5
        go_wp2
        go_ret
        exact ⟨_, init ++ [Ro.joinRow y (bare (txR d t))], rfl, HO6.out, by rw [Ro.ros_append, HRO.out, HA.out]; rfl, HG6.out⟩

end Go.Proofs.YtdplbcchkjpcdaaGreatDoor.Bu

namespace Go.Proofs.YtdplbcchkjpcdaaGreatDoor.To
set_option linter.unusedSimpArgs false
set_option linter.unusedVariables false
open Go.RowKit Ba Fm Fo Tm
open Ro (At acells len_acells below_new Sh Ra acells_one info_attr range2 range5)
theorem dec_cons {α : Type} [DecidableEq α] {x y : α} {r s : List α} {V : Bool} (h : decide (x :: r = y :: s) = V) : (x = y → decide (r = s) = V) ∧ (¬ x = y → V = false) := by
  constructor
  · intro e
    rw [← h, e]
    simp
  · intro e
    rw [← h]
    exact decide_eq_false fun e2 => e (by injection e2)
theorem neq_L {a b : ByteArray} (h : ¬ a = b) : (a.toList == b.toList) = false := by rw [eq_of_toList]; exact decide_eq_false h
theorem two_boxes (w : World) (x y : Tw) : ((w.alloc (tokO x)).alloc (tokO y)).drew.rangeAt w.heap.size 0 (cells x) ∧ ((w.alloc (tokO x)).alloc (tokO y)).drew.rangeAt (w.heap.size + 1) 0 (cells y) ∧ Below w.heap.size w ((w.alloc (tokO x)).alloc (tokO y)).drew := by
  have hb : Below w.heap.size w ((w.alloc (tokO x)).alloc (tokO y)) := (below_new w (tokO x)).alloc (by simp) _
  refine ⟨fun j v hv => ?_, fun j v hv => ?_, below_dN hb 1⟩
  · rw [Nat.zero_add]
    refine Eq.trans ?_ hv
    exact (World.cell?_alloc_lt _ _ ⟨w.heap.size, j, none⟩ (by simp)).trans (box_at w x j)
  · rw [Nat.zero_add]
    refine Eq.trans ?_ hv
    have e : w.heap.size + 1 = (w.alloc (tokO x)).heap.size := by simp
    rw [e]
    exact box_at (w.alloc (tokO x)) y j
theorem range5z {w : World} {b : Nat} {x : Tw} (h : w.rangeAt b 0 (cells x)) : w.cell? ⟨b, 0, none⟩ = some (.int .i64 x.tk.kind) ∧ w.cell? ⟨b, 1, none⟩ = some (.string x.tk.name) ∧ w.cell? ⟨b, 2, none⟩ = some (.string x.tk.data) ∧ w.cell? ⟨b, 3, none⟩ = some (.slice x.A x.tk.attrs.length x.c) ∧ w.cell? ⟨b, 4, none⟩ = some (.bool x.tk.self) :=
  ⟨h 0 _ rfl, h 1 _ rfl, h 2 _ rfl, h 3 _ rfl, h 4 _ rfl⟩

end Go.Proofs.YtdplbcchkjpcdaaGreatDoor.To

namespace Go.Proofs.YtdplbcchkjpcdaaGreatDoor.To
set_option maxRecDepth 100000
set_option linter.unusedSimpArgs false
set_option linter.unusedVariables false
open Go.RowKit Ba Fm Fo Tm
open Ro (At acells len_acells below_new Sh Ra acells_one info_attr range2 range5 flat_at flat_len)
open Re (Tab)
/-- A value reads as tokens. -/
def Tv (w : World) (V : Value) (t : List Tk) : Prop := ∃ A c l, V = .slice A t.length c ∧ t.length ≤ c ∧ Rr w w.heap.size A l ∧ tks l = t
theorem Ot.tv {N : Nat} {w : World} {V : Value} {l : List Tw} (h : Ot N w V l) : Tv w V (tks l) := by
  obtain ⟨A, c, e, hc, _, _, hr⟩ := h.form
  exact ⟨A, c, l, by rw [len_tks]; exact e, by rw [len_tks]; exact hc, hr, rfl⟩
theorem Tv.below {w w' : World} {V : Value} {t : List Tk} (h : Tv w V t) (hb : Below w.heap.size w w') : Tv w' V t := by
  obtain ⟨A, c, l, e, hc, hr, ht⟩ := h
  exact ⟨A, c, l, e, hc, (hr.below hb).more hb.size, ht⟩
/-- Tokens written out. -/
theorem Tv.lit (w : World) (l : List Tw) (h : ∀ x ∈ l, Att w w.heap.size x) : Tv (w.alloc (.cells (l.flatMap cells).toArray 44)) (.slice (some ⟨w.heap.size, 0, none⟩) l.length l.length) (tks l) := by
  refine ⟨_, _, l, by rw [len_tks], by rw [len_tks]; exact Nat.le_refl _, ⟨fun h0 => ⟨w.heap.size, 0, rfl, by simp, fun j hj i u hu => ?_⟩, fun x hx => (h x hx).boxed (Below.refl _ _) _⟩, rfl⟩
  have hi : i < 5 := (List.getElem?_eq_some_iff.1 hu).1
  rw [World.cell?_alloc_mark]
  rw [show 0 + j * 5 + i = j * 5 + i from by omega]
  simp only [List.getElem?_toArray]
  rw [flat_at cells 5 len_cells _ _ _ hj hi]
  exact hu

end Go.Proofs.YtdplbcchkjpcdaaGreatDoor.To
