/-
  Walks of stage 5: names.inElement, inAttr, every, Attr, Right.
  boltingref02.Space.
  Walks of stage 5: names.inElement, inAttr, every, Right, Attr, and the document's bad, May.
  Stage 11: the reference's New, Make.
  Stage 11: the reference's Make.
  Stage 11: the reference's rows copied, one of them changed; element, Data.
  Stage 11: the reference's element, Data.
  Stage 11: the reference's tree, Rows.
  Walks of stage 4: boltinglaw04.bound, boltingref04.Join; append of rows onto rows.
  The text of rows, and rows with their texts joined, in plain words.
  Slices of bytes of the call's own: what they hold, the string of them. For every stage.
  Walks of stage 4: joined, Text, textsEnd; boltingref04.Text.
  Walks of stage 4: textsEnd, Normal.
  Walks of stage 4: boltingref04.Normal.
  Walks of stage 4: sameAttrs, sameRow, Same; boltingref04.Attrs, Same.
  Walks of stage 4: sameRow, Same; boltingref04.Same.
  Walks of stage 4: boltingref04.Same.
  Walks of stage 4: placeOf.
  Walks of stage 4: nums; Kids and its reference out of range; Take, Drop.
  Walks of stage 4: Put and its reference.
  Walks of stage 4: the reference's Put.
  A value that reads as rows (Rv), and the contracts of Check, Same, Normal over it.
  Walks of stage 4: the fixed rows.
  Walks of stage 4: the fixed samples.
  Stage 4, plain: what right rows are; the parent in two ways.
  Arguments that are slices of structs, or structs, as a statement's row reads them: for rows, tokens and whatever has attributes.
  Stage 4: arguments that are rows, as the statement's row reads them.
  The laws of stage 4, walked: Checks.
  Stage 4: the contracts, over values that read as rows (Rv).
  Stage 11: the reference's Load.
  Stage 11, in plain words: rows gone over one by one, at each depth the last one.
  Stage 11: the reference's Clone.
  Attributes of the call's own; append of one.
  Stage 11: the reference's Attr.
  Stage 11: the reference's Drop.
  Stage 11, in plain words: what each call keeps of a document's nodes.
  Stage 11, in plain words: what a script's calls make of a document's nodes.
  Stage 11: the laws' trees, nums.
  Stage 11: slices of one's own that may be cut at their end; append onto such.
  Stage 11: the program's document in memory.
-/
import Derived.Test.YtmlchbohijolaaaCk01
import Derived.StillTailTactics
import Derived.Deep.RegionHeld3
import Derived.Deep.CutRange
import Derived.Laws.StructEq
import Derived.Deep.RegionWith
import Derived.Shelf.RegionOpen
import Derived.Laws.MakeOwn
import Derived.Deep.DeepCutAuto
import Derived.Test.YtmlchbohijolaaaRows
import Derived.Deep.Slices
import Derived.Deep.Fields
import Derived.ChangeSame
import Derived.ProofKit
import Derived.Carry
import Derived.Lib.SmallJoins
import Derived.OwnWalk
import Derived.ArgAppend
namespace Go.Proofs.Ytmlchbohijolaaa.Na
set_option maxRecDepth 100000
set_option linter.unusedSimpArgs false
set_option linter.unusedVariables false
open Go.RowKit Ba Fm Fo Nm
theorem u8_range {c : UInt8} : (decide ((65 : UInt8) ≤ c) && decide (c ≤ 90)) = (decide ((65 : Int) ≤ c.toNat) && decide ((c.toNat : Int) ≤ 90)) := by
  rw [Bool.eq_iff_iff]
  simp only [Bool.and_eq_true, decide_eq_true_eq, UInt8.le_iff_toNat_le]
  have e65 : (65 : UInt8).toNat = 65 := rfl
  have e90 : (90 : UInt8).toNat = 90 := rfl
  rw [e65, e90]
  omega
theorem u8_small {c : UInt8} : small c = (decide ((97 : Int) ≤ c.toNat) && decide ((c.toNat : Int) ≤ 122)) := by
  unfold small
  rw [Bool.eq_iff_iff]
  simp only [Bool.and_eq_true, decide_eq_true_eq, UInt8.le_iff_toNat_le]
  have e65 : (97 : UInt8).toNat = 97 := rfl
  have e90 : (122 : UInt8).toNat = 122 := rfl
  rw [e65, e90]
  omega

def elBAll (s : ByteArray) : Bool := (L s).all elB
def atBAll (s : ByteArray) : Bool := (L s).all atB
theorem all_snoc (p : UInt8 → Bool) (s : ByteArray) (k : Nat) (h : k < s.size) : ((L s).take (k + 1)).all p = (((L s).take k).all p && p s[k]) := by
  rw [take_snoc s k h, List.all_append]; simp
theorem all_no (p : UInt8 → Bool) (s : ByteArray) (k : Nat) (h : k < s.size) (hb : p s[k] = false) : (L s).all p = false := by
  rw [List.all_eq_false]
  exact ⟨s[k], List.getElem_mem (by rw [size_L]; exact h), by simp [hb]⟩

set_option maxHeartbeats 1000000 in
theorem inElement_any (c : UInt8) (w : World) :
    Calls Try.prog 85 #[.int .u8 c.toNat] w fun e w' => e = .returned (.bool (elB c)) ∧ w = w' := by
  have e0 : ((c.toNat : Int) == 0) = (c == 0) := u8_eq (b := 0)
  have e47 : ((c.toNat : Int) == 47) = (c == 47) := u8_eq (b := 47)
  have e62 : ((c.toNat : Int) == 62) = (c == 62) := u8_eq (b := 62)
  have hr := u8_range (c := c)
  have he : elB c = !(sp c || (decide ((65 : UInt8) ≤ c) && decide (c ≤ 90)) || c == 0 || c == 47 || c == 62) := rfl
  rw [hr] at he
  obtain ⟨q, hq⟩ : ∃ q, elB c = q := ⟨_, rfl⟩
  rw [hq] at he ⊢
  clear hr hq
  cases h0 : (c == 0) <;> cases h47 : (c == 47) <;> cases h62 : (c == 62)
  all_goals
    rw [h0] at e0
    rw [h47] at e47
    rw [h62] at e62
    rw [h0, h47, h62] at he
    clear h0 h47 h62
  case false.false.false =>
    cases hs : sp c <;> by_cases h1 : (65 : Int) ≤ c.toNat <;> by_cases h2 : (c.toNat : Int) ≤ 90
    all_goals
      have HE := Lib.hid he; have HS := Lib.hid hs
      clear he hs
      first
      | omega
      | (go_enter Try.func85, Try.ntmps85
         go_wp2_with (go_at_call 90; refine (space_any c _).mono ?_; rw [HS.out]; rintro e w' ⟨rfl, rfl⟩)
         go_ret
         exact ⟨ret_bool (by rw [HE.out, HS.out]; simp [h1, h2]), rfl⟩)
  all_goals
    have HE := Lib.hid he
    clear he
    go_enter Try.func85, Try.ntmps85
    go_wp2
    go_ret
    exact ⟨ret_bool (by rw [HE.out]; simp), rfl⟩

set_option maxHeartbeats 1000000 in
theorem inAttr_any (c : UInt8) (w : World) :
    Calls Try.prog 72 #[.int .u8 c.toNat] w fun e w' => e = .returned (.bool (atB c)) ∧ w = w' := by
  have e34 : ((c.toNat : Int) == 34) = (c == 34) := u8_eq (b := 34)
  have e39 : ((c.toNat : Int) == 39) = (c == 39) := u8_eq (b := 39)
  have e60 : ((c.toNat : Int) == 60) = (c == 60) := u8_eq (b := 60)
  have e61 : ((c.toNat : Int) == 61) = (c == 61) := u8_eq (b := 61)
  have he : atB c = (elB c && !(c == 34 || c == 39 || c == 60 || c == 61)) := rfl
  obtain ⟨q, hq⟩ : ∃ q, atB c = q := ⟨_, rfl⟩
  rw [hq] at he ⊢
  clear hq
  cases h34 : (c == 34) <;> cases h39 : (c == 39) <;> cases h60 : (c == 60) <;> cases h61 : (c == 61)
  all_goals
    rw [h34] at e34
    rw [h39] at e39
    rw [h60] at e60
    rw [h61] at e61
    rw [h34, h39, h60, h61] at he
    clear h34 h39 h60 h61
    have HE := Lib.hid he
    clear he
    go_enter Try.func72, Try.ntmps72
    go_wp2_with (go_at_call 85; refine (inElement_any c _).mono ?_; rintro e w' ⟨rfl, rfl⟩)
    go_ret
    exact ⟨ret_bool (by rw [HE.out]; simp), rfl⟩

set_option maxHeartbeats 1000000 in
theorem every_el (s : ByteArray) (w : World) (hs : s.size ≤ 140737488355328) :
    Calls Try.prog 71 #[.string s, .func (.func 85) #[] #[]] w fun e w' => e = .returned (.bool (elBAll s)) ∧ w = w' := by
  go_enter Try.func71, Try.ntmps71
  go_wp2
  go_loop [8] (fun i => ∃ k : Nat, i = .int .i64 k ∧ k ≤ s.size ∧ ((L s).take k).all elB = true) (fun i => s.size - (intOf i).toNat)
  case atStart => exact ⟨0, rfl, Nat.zero_le _, by simp⟩
  case round =>
    obtain ⟨k, rfl, hks, hn⟩ := hrel
    by_cases hp : k < s.size
    · have hsn := all_snoc elB s k hp
      rw [hn] at hsn
      cases hb : elB s[k] with
      | true =>
        rw [hb] at hsn
        have HB := Lib.hid hb; have HS := Lib.hid hsn; clear hb hsn hn
        go_wp2_with (go_at_call 85; refine (inElement_any s[k] _).mono ?_; rw [HB.out]; rintro e w' ⟨rfl, rfl⟩)
        go_round
        case rel => exact ⟨k + 1, by go_num, by omega, HS.out⟩
        case measure => simp [intOf]; omega
      | false =>
        have hno : elBAll s = false := all_no elB s k hp hb
        have HB := Lib.hid hb; have HN := Lib.hid hno; clear hb hsn hn hno
        go_wp2_with (go_at_call 85; refine (inElement_any s[k] _).mono ?_; rw [HB.out]; rintro e w' ⟨rfl, rfl⟩)
        go_ret
        exact ⟨ret_bool HN.out.symm, rfl⟩
    · rw [List.take_of_length_le (by rw [size_L]; omega)] at hn
      have hn : elBAll s = true := hn
      have HN := Lib.hid hn; clear hn
      go_wp2
      go_ret
      exact ⟨ret_bool HN.out.symm, rfl⟩
set_option maxHeartbeats 1000000 in
theorem every_at (s : ByteArray) (w : World) (hs : s.size ≤ 140737488355328) :
    Calls Try.prog 71 #[.string s, .func (.func 72) #[] #[]] w fun e w' => e = .returned (.bool (atBAll s)) ∧ w = w' := by
  go_enter Try.func71, Try.ntmps71
  go_wp2
  go_loop [8] (fun i => ∃ k : Nat, i = .int .i64 k ∧ k ≤ s.size ∧ ((L s).take k).all atB = true) (fun i => s.size - (intOf i).toNat)
  case atStart => exact ⟨0, rfl, Nat.zero_le _, by simp⟩
  case round =>
    obtain ⟨k, rfl, hks, hn⟩ := hrel
    by_cases hp : k < s.size
    · have hsn := all_snoc atB s k hp
      rw [hn] at hsn
      cases hb : atB s[k] with
      | true =>
        rw [hb] at hsn
        have HB := Lib.hid hb; have HS := Lib.hid hsn; clear hb hsn hn
        go_wp2_with (go_at_call 72; refine (inAttr_any s[k] _).mono ?_; rw [HB.out]; rintro e w' ⟨rfl, rfl⟩)
        go_round
        case rel => exact ⟨k + 1, by go_num, by omega, HS.out⟩
        case measure => simp [intOf]; omega
      | false =>
        have hno : atBAll s = false := all_no atB s k hp hb
        have HB := Lib.hid hb; have HN := Lib.hid hno; clear hb hsn hn hno
        go_wp2_with (go_at_call 72; refine (inAttr_any s[k] _).mono ?_; rw [HB.out]; rintro e w' ⟨rfl, rfl⟩)
        go_ret
        exact ⟨ret_bool HN.out.symm, rfl⟩
    · rw [List.take_of_length_le (by rw [size_L]; omega)] at hn
      have hn : atBAll s = true := hn
      have HN := Lib.hid hn; clear hn
      go_wp2
      go_ret
      exact ⟨ret_bool HN.out.symm, rfl⟩

theorem nil_size {s : ByteArray} (h : s.toList = []) : s.size = 0 := by
  rw [toList_L] at h
  rw [← size_L, h]; rfl
theorem not_nil {s : ByteArray} (h : ¬ s.size = 0) : ¬ s.toList = [] := fun e => h (nil_size e)
theorem nil_of {s : ByteArray} (h : s.size = 0) : s.toList = [] := by
  rw [toList_L]
  exact List.eq_nil_of_length_eq_zero (by rw [size_L]; exact h)
theorem attrB_nil {s : ByteArray} (h : s.size = 0) : attrB s = false := by
  unfold attrB
  rw [← toList_L, nil_of h]; rfl
theorem rightB_nil {s : ByteArray} (h : s.size = 0) : rightB s = false := by
  unfold rightB
  rw [← toList_L, nil_of h]; rfl
theorem attrB_cons {s : ByteArray} (h : ¬ s.size = 0) : attrB s = atBAll s := by
  unfold attrB atBAll
  have := drop_cons s 0 (by omega)
  rw [List.drop_zero] at this
  rw [this]; rfl
theorem rightB_cons {s : ByteArray} (h : 0 < s.size) : rightB s = (small s[0] && elBAll s) := by
  unfold rightB elBAll
  have := drop_cons s 0 h
  rw [List.drop_zero] at this
  rw [this]; rfl

set_option maxHeartbeats 1000000 in
theorem attr_any (s : ByteArray) (w : World) (hs : s.size ≤ 140737488355328) :
    Calls Try.prog 45 #[.string s] w fun e w' => e = .returned (.bool (attrB s)) ∧ w = w' := by
  by_cases h0 : s.size = 0
  · rw [attrB_nil h0]
    have hn := nil_of h0
    clear h0
    go_enter Try.func45, Try.ntmps45
    go_wp2
    go_ret
    exact ⟨rfl, rfl⟩
  · rw [attrB_cons h0]
    have hn := not_nil h0
    clear h0
    go_enter Try.func45, Try.ntmps45
    go_wp2_with fail
    refine (every_at s w hs).mono ?_
    rintro e w' ⟨rfl, rfl⟩
    go_wp2
    go_ret
    exact ⟨ret_bool (by simp [hn]), rfl⟩
set_option maxHeartbeats 1000000 in
theorem right_any (s : ByteArray) (w : World) (hs : s.size ≤ 140737488355328) :
    Calls Try.prog 69 #[.string s] w fun e w' => e = .returned (.bool (rightB s)) ∧ w = w' := by
  by_cases h0 : s.size = 0
  · rw [rightB_nil h0]
    have hn := nil_of h0
    clear h0
    go_enter Try.func69, Try.ntmps69
    go_wp2
    go_ret
    exact ⟨rfl, rfl⟩
  · have hp : 0 < s.size := by omega
    have he := rightB_cons hp
    rw [u8_small] at he
    obtain ⟨q, hq⟩ : ∃ q, rightB s = q := ⟨_, rfl⟩
    rw [hq] at he ⊢
    have hn := not_nil h0
    clear h0 hq
    have HE := Lib.hid he
    clear he
    by_cases h1 : (97 : Int) ≤ s[0].toNat <;> by_cases h2 : (s[0].toNat : Int) ≤ 122
    all_goals
      go_enter Try.func69, Try.ntmps69
      go_wp2_with (go_at_call 71; refine (every_el s _ hs).mono ?_; rintro e w' ⟨rfl, rfl⟩)
      go_ret
      refine ⟨ret_bool ?_, rfl⟩
      rw [HE.out]
      by_cases g1 : (97 : Int) ≤ s[0].toNat
      · by_cases g2 : (s[0].toNat : Int) ≤ 122
        · rw [decide_eq_true g1, decide_eq_true g2]
          first | rfl | (simp [hn]; done) | (exfalso; omega)
        · rw [decide_eq_false g2, decide_eq_true g1]
          first | rfl | (exfalso; omega)
      · rw [decide_eq_false g1]
        first | rfl | (exfalso; omega)

end Go.Proofs.Ytmlchbohijolaaa.Na

namespace Go.Proofs.Ytmlchbohijolaaa.Fo
set_option maxRecDepth 100000
set_option linter.unusedSimpArgs false
set_option linter.unusedVariables false
open Go.RowKit Ba Fm
end Go.Proofs.Ytmlchbohijolaaa.Fo

namespace Go.Proofs.Ytmlchbohijolaaa.Na
set_option maxRecDepth 100000
set_option linter.unusedSimpArgs false
set_option linter.unusedVariables false
open Go.RowKit Ba Fm Fo Nm
def mayB (s : ByteArray) (a : Bool) : Bool := if a = true then attrB s else rightB s
theorem may_nil {s : ByteArray} (a : Bool) (h : s.size = 0) : mayB s a = false := by
  unfold mayB
  rw [attrB_nil h, rightB_nil h]
  cases a <;> rfl
end Go.Proofs.Ytmlchbohijolaaa.Na

namespace Go.Proofs.Ytmlchbohijolaaa.Ar
set_option maxRecDepth 100000
set_option linter.unusedSimpArgs false
set_option linter.unusedVariables false
open Go.RowKit Ba
open Ro (At Ro Cw ros Rr Ow Nw Fr Att Ap Sh cells acells below_new infoI info_row len_cells rowV rowO Few Fits)
def ro00 : Ro := ⟨0, 0, ⟨#[]⟩, ⟨#[]⟩, []⟩
def M0 : List Nd := [⟨ro00, -1, []⟩]
theorem nd_M0 (n : Nat) : nd M0 n = if n = 0 then ⟨ro00, -1, []⟩ else nd0 := by
  unfold nd M0
  match n with
  | 0 => rfl
  | n + 1 => rfl
theorem wf_M0 : Wf M0 := by
  have h0 : ∀ n, (nd M0 n).up = -1 := fun n => by rw [nd_M0]; split <;> rfl
  have h1 : ∀ n, (nd M0 n).kids = [] := fun n => by rw [nd_M0]; split <;> rfl
  refine ⟨by decide, h0 0, fun n => by rw [h0]; decide, fun p c => ?_, fun p => by rw [h1]; exact List.nodup_nil, fun n => by rw [nd_M0]; split <;> rfl, ⟨fun _ => 0, fun c p _ h => ?_⟩⟩
  · rw [h1, h0]
    constructor
    · intro h
      cases h
    · rintro ⟨_, h⟩
      omega
  · rw [h0] at h
    omega
theorem own_full {e : TypeId} {size n base : Nat} (w : World) (cur : Array Value) (xs : List Value) (hb : base ≤ w.heap.size) (hm : n ≤ maxLen) (hs : cur.size = n * size) (hx : xs = cur.toList) :
    (w.alloc (.cells cur e)).ownsRow base e size (.slice (some ⟨w.heap.size, 0, none⟩) n n) n xs := by
  subst hx
  exact ⟨by simp [hs], .inr ⟨w.heap.size, n, cur, rfl, hb, heap_alloc_new w _, Nat.le_refl _, hm, hs, (List.take_of_length_le (by simp [hs]))⟩⟩
end Go.Proofs.Ytmlchbohijolaaa.Ar

namespace Go.Proofs.Ytmlchbohijolaaa.Ar
set_option maxRecDepth 100000
set_option linter.unusedSimpArgs false
set_option linter.unusedVariables false
open Go.RowKit Ba
open Ro (At Ro Cw ros Rr Ow Nw Fr Att Ap Sh cells acells below_new infoI info_row len_cells rowV rowO Few Fits)
open Na (mayB)
/-! ### What Make answers. -/
def makeB (k : Int) (n d : ByteArray) : Bool := (k == 0 && mayB n false && d.toList.isEmpty) || ((k == 1 || k == 2) && n.toList.isEmpty)
def makeR (k : Int) (n d : ByteArray) : Ro := ⟨0, k, n, d, []⟩
def makeE (M : List Nd) (k : Int) (n d : ByteArray) : Int × Int := if makeB k n d then (if 4096 ≤ M.length then (0, 2) else ((M.length : Int), 0)) else (0, 1)
def makeM (M : List Nd) (k : Int) (n d : ByteArray) : List Nd := if makeB k n d && decide (M.length < 4096) then addM M (makeR k n d) else M
theorem att_none (w : World) (r : Ro) (h : r.attrs = []) : Att w w.heap.size ⟨r, none, 0⟩ := by
  refine ⟨by rw [h]; exact Nat.le_refl _, fun _ => rfl, Nat.zero_le _, fun h0 => ?_, ?_⟩
  · rw [h] at h0
    exact absurd h0 (by simp)
  · show Sh r.attrs
    rw [h]
    intro x hx
    cases hx
end Go.Proofs.Ytmlchbohijolaaa.Ar

namespace Go.Proofs.Ytmlchbohijolaaa.Ar
set_option maxRecDepth 100000
set_option linter.unusedSimpArgs false
set_option linter.unusedVariables false
open Go.RowKit Ba
open Ro (At Ro Cw ros Rr Ow Nw Fr Att Ap Sh cells acells below_new infoI info_row len_cells rowV rowO Few Fits deeper)
theorem ro_row (M : List Nd) (n : Nat) (f : Ro → Ro) : (rowM M n f).map Nd.ro = (M.map Nd.ro).set n (f (nd M n).ro) := by
  apply List.ext_getElem?
  intro j
  unfold rowM
  rw [List.getElem?_map, List.getElem?_mapIdx, List.getElem?_set, List.getElem?_map, List.length_map]
  by_cases hj : j < M.length
  · rw [List.getElem?_eq_getElem hj]
    by_cases e : n = j
    · subst e
      rw [if_pos rfl, if_pos hj, nd_at hj]
      simp
    · have e' : ¬ j = n := fun h => e h.symm
      rw [if_neg e]
      simp [e']
  · rw [List.getElem?_eq_none (by omega : M.length ≤ j)]
    by_cases e : n = j
    · subst e
      simp [hj]
    · simp [e]
end Go.Proofs.Ytmlchbohijolaaa.Ar

namespace Go.Proofs.Ytmlchbohijolaaa.Ar
set_option maxRecDepth 100000
set_option linter.unusedSimpArgs false
set_option linter.unusedVariables false
open Go.RowKit Ba
open Ro (At Ro Cw ros Rr Ow Nw Fr Att Ap Sh cells acells below_new infoI info_row len_cells rowV rowO Few Fits deeper)
/-! ### What they answer. -/
def elB11 (M : List Nd) (n : Int) : Bool := decide (0 < n) && decide (n < M.length) && decide ((nd M n.toNat).ro.kind = 0)
def dataE (M : List Nd) (n : Int) : Int := if n < 1 ∨ (M.length : Int) ≤ n ∨ (nd M n.toNat).ro.kind = 0 then 110 else 0
def dataM (M : List Nd) (n : Int) (d : ByteArray) : List Nd := if n < 1 ∨ (M.length : Int) ≤ n ∨ (nd M n.toNat).ro.kind = 0 then M else rowM M n.toNat fun r => { r with data := d }
end Go.Proofs.Ytmlchbohijolaaa.Ar

namespace Go.Proofs.Ytmlchbohijolaaa.Ar
set_option maxRecDepth 100000
set_option linter.unusedSimpArgs false
set_option linter.unusedVariables false
open Go.RowKit Ba
open Ro (At Ro Cw ros Rr Ow Nw Fr Att Ap Sh Ra cells acells below_new infoI info_row len_cells rowV rowO Few Fits deeper)
theorem flat_prefix {α β : Type} (f : α → List β) (ks : List α) (j : Nat) : ((ks.take j).flatMap f).length ≤ (ks.flatMap f).length := by
  have : ks.flatMap f = (ks.take j).flatMap f ++ (ks.drop j).flatMap f := by rw [← List.flatMap_append, List.take_append_drop]
  rw [this, List.length_append]
  omega
theorem own_blk {K n s c : Nat} {w : World} {t : TypeId} {A : Option Addr} {xs : List Value} (h : w.ownsRow K t s (.slice A n c) n xs) {b : Nat} (hb : A.map Addr.block = some b) : K ≤ b := by
  rcases h.2 with ⟨hv, _⟩ | ⟨g, cap, cur, hv, hg, _⟩
  · injection hv with h1
    rw [h1] at hb
    cases hb
  · injection hv with h1
    rw [h1] at hb
    cases hb
    exact hg
end Go.Proofs.Ytmlchbohijolaaa.Ar

namespace Go.Proofs.Ytmlchbohijolaaa.Ro
set_option maxRecDepth 100000
set_option linter.unusedVariables false
set_option linter.unusedSimpArgs false
open Go.RowKit Ba
theorem Ra.take {w : World} {N : Nat} {A : Option Addr} {l : List At} (h : Ra w N A l) (k : Nat) : Ra w N A (l.take k) := fun h0 => by
  rw [List.length_take] at h0
  obtain ⟨b, off, e, hb, hc⟩ := h (by omega)
  refine ⟨b, off, e, hb, fun j hj => ?_⟩
  rw [List.length_take] at hj
  rw [List.getElem_take]
  exact hc j (by omega)
abbrev cut (x : Cw) (ys : List At) : Cw := ⟨⟨x.ro.depth, x.ro.kind, x.ro.name, x.ro.data, ys⟩, x.A, x.c⟩
theorem Att.cut {w : World} {N : Nat} {x : Cw} (h : Att w N x) : Att w N (cut x (x.ro.attrs.take 8)) :=
  ⟨Nat.le_trans (List.length_take_le' _ _) h.1, h.2.1, h.2.2.1, h.2.2.2.1.take 8, fun a ha => h.2.2.2.2 a (List.mem_of_mem_take ha)⟩
end Go.Proofs.Ytmlchbohijolaaa.Ro

namespace Go.Proofs.Ytmlchbohijolaaa.Ro
set_option linter.unusedVariables false
set_option linter.unusedSimpArgs false
open Ba
end Go.Proofs.Ytmlchbohijolaaa.Ro

namespace Go.Proofs.Ytmlchbohijolaaa.Ba
set_option maxRecDepth 100000
set_option linter.unusedSimpArgs false
set_option linter.unusedVariables false
open Go.RowKit
def bc (b : UInt8) : Value := .int .u8 b.toNat
/-- v is a slice of bytes of the call's own that holds l. -/
def OwnB (N : Nat) (w : World) (v : Value) (l : List UInt8) : Prop := w.ownsRow N 5 1 v l.length (l.map bc)
theorem OwnB.alloc {N : Nat} {w : World} {v : Value} {l : List UInt8} (h : OwnB N w v l) (o : Obj) : OwnB N (w.alloc o) v l := World.ownsRow.alloc h o
theorem OwnB.below {N : Nat} {w0 w w' : World} {v : Value} {l : List UInt8} (h : OwnB N w v l) (hg : w.grownBy w' v.ownBlock) (hb : Below N w0 w) (hN : N ≤ w.heap.size) : Below N w0 w' :=
  hb.grown hg hN fun k hk => (h.lt k hk).1
theorem OwnB.keep {N M : Nat} {w w' : World} {v : Value} {l : List UInt8} (h : OwnB N w v l) (hb : Below M w w') (hM : w.heap.size ≤ M := by exact Nat.le_refl _) : OwnB N w' v l := by
  refine ⟨h.1, ?_⟩
  rcases h.2 with hn | ⟨g, cap, cur, hv, hg, hh, rest⟩
  · exact .inl hn
  · refine .inr ⟨g, cap, cur, hv, hg, ?_, rest⟩
    have hlt : g < w.heap.size := (Array.getElem?_eq_some_iff.1 hh).1
    rw [hb.block g (by omega)]
    exact hh
theorem OwnB.nil (N : Nat) (w : World) : OwnB N w (.slice none 0 0) [] := World.ownsRow_nil w N _ 1

end Go.Proofs.Ytmlchbohijolaaa.Ba

namespace Go.Proofs.Ytmlchbohijolaaa.Ro
set_option linter.unusedVariables false
set_option linter.unusedSimpArgs false
open Go.RowKit Ba
end Go.Proofs.Ytmlchbohijolaaa.Ro

namespace Go.Proofs.Ytmlchbohijolaaa.Ro
set_option linter.unusedVariables false
set_option linter.unusedSimpArgs false
open Go.RowKit Ba
end Go.Proofs.Ytmlchbohijolaaa.Ro

namespace Go.Proofs.Ytmlchbohijolaaa.Ro
set_option linter.unusedVariables false
set_option linter.unusedSimpArgs false
open Go.RowKit Ba
def sets (xs : List Value) : Nat → List Value → List Value
  | _, [] => xs
  | o, v :: r => sets (xs.set o v) (o + 1) r
theorem sets_end : ∀ (vs us F : List Value), us.length = vs.length → sets (F ++ us) F.length vs = F ++ vs
  | [], us, F, h => by
    have : us = [] := List.eq_nil_of_length_eq_zero h
    rw [this]
    rfl
  | v :: r, [], F, h => by cases h
  | v :: r, u :: us, F, h => by
    rw [sets, List.set_append_right F.length v (Nat.le_refl _), Nat.sub_self, List.set_cons_zero]
    have := sets_end r us (F ++ [v]) (by simpa using h)
    rw [List.length_append, List.append_assoc, List.append_assoc] at this
    exact this
theorem stored_many {N g n cap : Nat} {e : TypeId} {size : Nat} : ∀ (vs : List Value) (o : Nat) (w : World) (xs : List Value), w.ownsRow N e size (.slice (some ⟨g, 0, none⟩) n cap) n xs →
    (w.setCells g o vs).ownsRow N e size (.slice (some ⟨g, 0, none⟩) n cap) n (sets xs o vs) ∧ w.grownBy (w.setCells g o vs) (some g)
  | [], o, w, xs, h => ⟨h, World.grownBy.refl w _⟩
  | v :: r, o, w, xs, h => by
    obtain ⟨h1, h2⟩ := World.ownsRow.stored h o v
    obtain ⟨h3, h4⟩ := stored_many r (o + 1) _ _ h1
    exact ⟨h3, h2.trans h4⟩
/-- The last row of the call's own, stored anew. -/
theorem Ow.last {N g cap : Nat} {w : World} {init : List Cw} {y y' : Cw} (h : Ow N w (.slice (some ⟨g, 0, none⟩) (init.length + 1) cap) (init ++ [y])) (hy : Att w w.heap.size y') (ha : Ap w N y') :
    Ow N (w.setCells g (init.length * 5) (cells y')) (.slice (some ⟨g, 0, none⟩) (init.length + 1) cap) (init ++ [y']) ∧ w.grownBy (w.setCells g (init.length * 5) (cells y')) (some g) := by
  obtain ⟨h1, h2⟩ := h
  rw [List.length_append, List.flatMap_append] at h1
  have h1 : w.ownsRow N 65 5 (.slice (some ⟨g, 0, none⟩) (init.length + 1) cap) (init.length + 1) (init.flatMap cells ++ cells y) := by simpa using h1
  obtain ⟨h3, h4⟩ := stored_many (cells y') (init.length * 5) w _ h1
  rw [← flat_len cells 5 len_cells init, sets_end (cells y') (cells y) _ rfl, flat_len cells 5 len_cells init] at h3
  refine ⟨⟨?_, fun z hz => ?_⟩, h4⟩
  · rw [List.length_append, List.flatMap_append]
    simpa using h3
  · rcases List.mem_append.1 hz with hz | hz
    · have := h2 z (List.mem_append_left _ hz)
      exact ⟨this.1.grown h1 h4 this.2, this.2.grown h1 h4⟩
    · obtain rfl := List.mem_singleton.1 hz
      exact ⟨hy.grown h1 h4 ha, ha.grown h1 h4⟩
theorem Ow.there {N g cap : Nat} {w : World} {init : List Cw} {y : Cw} (h : Ow N w (.slice (some ⟨g, 0, none⟩) (init.length + 1) cap) (init ++ [y])) : w.there g (init.length * 5) 5 := by
  obtain ⟨h1, _⟩ := h
  rw [List.length_append, List.flatMap_append] at h1
  have h1 : w.ownsRow N 65 5 (.slice (some ⟨g, 0, none⟩) (init.length + 1) cap) (init.length + 1) (init.flatMap cells ++ cells y) := by simpa using h1
  intro j hj
  refine ⟨?_, h1.frozenAt _⟩
  rw [h1.cellAt _ (by omega), List.getElem?_eq_getElem (by rw [List.length_append, flat_len cells 5 len_cells, len_cells]; omega)]
  rfl

theorem Ow.pos {N : Nat} {w : World} {v : Value} {init : List Cw} {y : Cw} (h : Ow N w v (init ++ [y])) :
    ∃ g cap, v = .slice (some ⟨g, 0, none⟩) (init.length + 1) cap ∧ init.length + 1 ≤ cap ∧ cap ≤ maxLen ∧ N ≤ g ∧ g < w.heap.size ∧ w.rangeAt g (init.length * 5) (cells y) := by
  have hl : (init ++ [y]).length = init.length + 1 := by simp
  obtain ⟨A, c, hv, h1, h2, _, h4⟩ := h.form
  rcases h.1.2 with ⟨_, hn⟩ | ⟨g, cap, cur, hv', hg, hh, hn, hm, _⟩
  · omega
  · rw [hl] at hv' hn
    refine ⟨g, cap, hv', hn, hm, hg, (Array.getElem?_eq_some_iff.1 hh).1, ?_⟩
    obtain ⟨b, off, e, _, hc⟩ := h4.1 (by omega)
    rw [hv', hl] at hv
    injection hv with e1
    rw [← e1] at e
    injection e with e
    injection e with e2 e3
    subst e2 e3
    have := hc init.length (by omega)
    rw [Nat.zero_add] at this
    simpa using this

end Go.Proofs.Ytmlchbohijolaaa.Ro

namespace Go.Proofs.Ytmlchbohijolaaa.Ro
set_option maxRecDepth 100000
set_option linter.unusedVariables false
set_option linter.unusedSimpArgs false
open Go.RowKit Ba
theorem At.eta (a b : At) (h : ¬ a = b) : ¬ a.name = b.name ∨ (a.name = b.name ∧ ¬ a.value = b.value) := by
  by_cases hn : a.name = b.name
  · exact .inr ⟨hn, fun hv => h (by cases a; cases b; simp_all)⟩
  · exact .inl hn
theorem neq_L {a b : ByteArray} (h : ¬ a = b) : ¬ a.toList = b.toList := fun e => h (L_inj (by rw [← toList_L, ← toList_L, e]))
theorem dec_cons {α : Type} [DecidableEq α] {x y : α} {r s : List α} {V : Bool} (h : decide (x :: r = y :: s) = V) : (x = y → decide (r = s) = V) ∧ (¬ x = y → V = false) := by
  constructor
  · intro e
    rw [← h, e]
    simp
  · intro e
    rw [← h]
    exact decide_eq_false fun e2 => e (by injection e2)

set_option maxRecDepth 100000 in
set_option maxHeartbeats 1000000 in
theorem refAttrs_any (A B : Option Addr) (ca cb : Nat) (xs ys : List At) (w : World) (hra : Ra w w.heap.size A xs) (hrb : Ra w w.heap.size B ys) (hca : xs.length ≤ ca) (hcb : ys.length ≤ cb) (hma : ca ≤ maxLen) (hmb : cb ≤ maxLen) :
    Calls Try.prog 35 #[.slice A xs.length ca, .slice B ys.length cb] w fun e w' => e = .returned (.bool (decide (xs = ys))) ∧ ∃ n, w' = w.drewN n := by
  unfold maxLen at hma hmb
  by_cases hlen : xs.length = ys.length
  · obtain ⟨V, hV⟩ : ∃ V, decide (xs = ys) = V := ⟨_, rfl⟩
    rw [hV]
    have hne : ((xs.length : Int) != (ys.length : Int)) = false := by rw [hlen]; simp
    have HV := Lib.hid hV; have HL := Lib.hid hlen
    clear hV hlen
    go_enter Try.func35, Try.ntmps35
    go_wp2
    go_loopw [5] (fun i wr => ∃ k : Nat, i = .int .i64 k ∧ k ≤ xs.length ∧ decide (xs.drop k = ys.drop k) = V ∧ ∃ n, wr = w.drewN n) (fun i _ => xs.length - (intOf i).toNat)
    case atStart => exact ⟨0, rfl, by omega, HV.out, 0, rfl⟩
    case round =>
      clear HV
      obtain ⟨k, rfl, hk, hv, n, rfl⟩ := hrel
      by_cases hp : k < xs.length
      · obtain ⟨b1, o1, x, rfl, _, hdx, hx, _⟩ := hra.at_ k hp
        have hp2 : k < ys.length := by have := HL.out; omega
        obtain ⟨b2, o2, y, rfl, _, hdy, hy, _⟩ := hrb.at_ k hp2
        rw [hdx, hdy] at hv
        obtain ⟨v1, v2⟩ := dec_cons hv
        clear hv hdx hdy
        by_cases hxy : x = y
        · subst hxy
          have HV := Lib.hid (v1 rfl)
          clear v1 v2
          obtain ⟨f1, f2⟩ := range2 hx
          obtain ⟨f3, f4⟩ := range2 hy
          clear hx hy
          go_wp2
          go_quiet (fail)
          go_wp2
          go_roundw
          case rel => exact ⟨k + 1, by go_num, by omega, HV.out, _, rfl⟩
          case measure => simp [intOf]; omega
        · obtain rfl := v2 hxy
          clear v1 v2
          rcases At.eta x y hxy with h | ⟨h, h'⟩
          · have h1 := neq_L h
            clear h hxy
            obtain ⟨f1, f2⟩ := range2 hx
            obtain ⟨f3, f4⟩ := range2 hy
            clear hx hy
            go_wp2
            go_quiet (fail)
            go_wp2
            go_ret
            exact ⟨rfl, _, World.drewN_drewN _ _ _⟩
          · have h1 := neq_L h'
            have h2 : y.name = x.name := h.symm
            rw [h2] at hy
            clear h h' hxy h2
            obtain ⟨f1, f2⟩ := range2 hx
            obtain ⟨f3, f4⟩ := range2 hy
            clear hx hy
            go_wp2
            go_quiet (fail)
            go_wp2
            go_ret
            exact ⟨rfl, _, World.drewN_drewN _ _ _⟩
      · rw [List.drop_eq_nil_of_le (by omega), List.drop_eq_nil_of_le (by have := HL.out; omega)] at hv
        have HV := Lib.hid hv
        clear hv
        go_wp2
        go_ret
        exact ⟨ret_bool (by rw [← HV.out]; rfl), _, rfl⟩
  · have e : decide (xs = ys) = false := decide_eq_false fun e => hlen (by rw [e])
    rw [e]
    have hne : ((xs.length : Int) != (ys.length : Int)) = true := by rw [bne_iff_ne]; omega
    clear e hlen
    go_enter Try.func35, Try.ntmps35
    go_wp2
    go_ret
    exact ⟨rfl, 0, rfl⟩

end Go.Proofs.Ytmlchbohijolaaa.Ro

namespace Go.Proofs.Ytmlchbohijolaaa.Ro
set_option linter.unusedVariables false
set_option linter.unusedSimpArgs false
open Go.RowKit Ba
theorem ro_eq (x y : Ro) : decide (x = y) = ((x.depth == y.depth) && ((x.kind == y.kind) && ((x.name.toList == y.name.toList) && ((x.data.toList == y.data.toList) && decide (x.attrs = y.attrs))))) := by
  rw [eq_of_toList, eq_of_toList, Bool.eq_iff_iff]
  cases x
  cases y
  simp

theorem ros_drop_eq {l r : List Cw} {k : Nat} {x y : Cw} {V : Bool} (hx : l.drop k = x :: l.drop (k + 1)) (hy : r.drop k = y :: r.drop (k + 1)) (h : decide (ros (l.drop k) = ros (r.drop k)) = V) :
    (x.ro = y.ro → decide (ros (l.drop (k + 1)) = ros (r.drop (k + 1))) = V) ∧ (¬ x.ro = y.ro → V = false) := by
  rw [hx, hy, ros_cons, ros_cons] at h
  exact dec_cons h

end Go.Proofs.Ytmlchbohijolaaa.Ro

namespace Go.Proofs.Ytmlchbohijolaaa.Ro
set_option maxRecDepth 100000
set_option linter.unusedVariables false
set_option linter.unusedSimpArgs false
open Go.RowKit Ba
theorem two_boxes (w : World) (x y : Cw) : ((w.alloc (rowO x)).alloc (rowO y)).drew.rangeAt w.heap.size 0 (cells x) ∧ ((w.alloc (rowO x)).alloc (rowO y)).drew.rangeAt (w.heap.size + 1) 0 (cells y) ∧ Below w.heap.size w ((w.alloc (rowO x)).alloc (rowO y)).drew := by
  have hb : Below w.heap.size w ((w.alloc (rowO x)).alloc (rowO y)) := (below_new w (rowO x)).alloc (by simp) _
  refine ⟨fun j v hv => ?_, fun j v hv => ?_, below_dN hb 1⟩
  · rw [Nat.zero_add]
    refine Eq.trans ?_ hv
    exact (World.cell?_alloc_lt _ _ ⟨w.heap.size, j, none⟩ (by simp)).trans (box_at w x j)
  · rw [Nat.zero_add]
    refine Eq.trans ?_ hv
    have e : w.heap.size + 1 = (w.alloc (rowO x)).heap.size := by simp
    rw [e]
    exact box_at (w.alloc (rowO x)) y j
theorem range5z {w : World} {b : Nat} {x : Cw} (h : w.rangeAt b 0 (cells x)) : w.cell? ⟨b, 0, none⟩ = some (.int .i64 x.ro.depth) ∧ w.cell? ⟨b, 1, none⟩ = some (.int .i64 x.ro.kind) ∧ w.cell? ⟨b, 2, none⟩ = some (.string x.ro.name) ∧ w.cell? ⟨b, 3, none⟩ = some (.string x.ro.data) ∧ w.cell? ⟨b, 4, none⟩ = some (.slice x.A x.ro.attrs.length x.c) :=
  ⟨h 0 _ rfl, h 1 _ rfl, h 2 _ rfl, h 3 _ rfl, h 4 _ rfl⟩

set_option maxRecDepth 100000 in
set_option maxHeartbeats 1000000 in
theorem refSame_any (A B : Option Addr) (ca cb : Nat) (l r : List Cw) (w : World) (hl : Rr w w.heap.size A l) (hr : Rr w w.heap.size B r) (hca : l.length ≤ ca) (hcb : r.length ≤ cb) (hml : l.length ≤ 1000000) (hmr : r.length ≤ 1000000) :
    Calls Try.prog 26 #[.slice A l.length ca, .slice B r.length cb] w fun e w' => e = .returned (.bool (decide (ros l = ros r))) ∧ Below w.heap.size w w' := by
  by_cases hlen : l.length = r.length
  · obtain ⟨V, hV⟩ : ∃ V, decide (ros l = ros r) = V := ⟨_, rfl⟩
    rw [hV]
    have hne : ((l.length : Int) != (r.length : Int)) = false := by rw [hlen]; simp
    have HV := Lib.hid hV; have HL := Lib.hid hlen
    clear hV hlen
    go_enter Try.func26, Try.ntmps26
    go_wp2
    go_loopw [5] (fun i wr => ∃ k : Nat, i = .int .i64 k ∧ k ≤ l.length ∧ decide (ros (l.drop k) = ros (r.drop k)) = V ∧ Below w.heap.size w wr) (fun i _ => l.length - (intOf i).toNat)
    case atStart => exact ⟨0, rfl, by omega, HV.out, Below.refl _ _⟩
    case round =>
      clear HV
      obtain ⟨k, rfl, hk, hv, hbel⟩ := hrel
      have hsz := hbel.size
      by_cases hp : k < l.length
      · obtain ⟨b1, o1, x, rfl, _, hdx, hx, hxa, _⟩ := (hl.below hbel).at_ k hp
        have hp2 : k < r.length := by have := HL.out; omega
        obtain ⟨b2, o2, y, rfl, _, hdy, hy, hya, _⟩ := (hr.below hbel).at_ k hp2
        obtain ⟨v1, v2⟩ := ros_drop_eq hdx hdy hv
        have HXA := Lib.hid (hxa.more hsz); have HYA := Lib.hid (hya.more hsz)
        have V1 := Lib.hid v1; have V2 := Lib.hid v2
        obtain ⟨f0, f1, f2, f3, f4⟩ := range5 hx
        obtain ⟨g0, g1, g2, g3, g4⟩ := range5 hy
        clear hv hdx hdy hxa hya v1 v2 hx hy
        have ef0 := World.new_ne wr _ f0
        have eg0 := World.new_ne wr _ g0
        go_upto_region 6 with (fail)
        go_cut [6, 7] from 13 to 60 (fun s6 s7 wx => ∃ g h, s6 = .pointer (some ⟨g, 0, none⟩) ∧ s7 = .pointer (some ⟨h, 0, none⟩) ∧ wx.rangeAt g 0 (cells x) ∧ wx.rangeAt h 0 (cells y) ∧ Below wr.heap.size wr wx)
        case first =>
          go_region_held3 (fun w' => w'.cell? ⟨b1, o1 + k * 5, none⟩ = some (.int .i64 x.ro.depth) ∧ w'.cell? ⟨b1, o1 + k * 5 + 1, none⟩ = some (.int .i64 x.ro.kind) ∧ w'.cell? ⟨b1, o1 + k * 5 + 2, none⟩ = some (.string x.ro.name) ∧ w'.cell? ⟨b1, o1 + k * 5 + 3, none⟩ = some (.string x.ro.data) ∧ w'.cell? ⟨b1, o1 + k * 5 + 4, none⟩ = some (.slice x.A x.ro.attrs.length x.c) ∧ w'.cell? ⟨b2, o2 + k * 5, none⟩ = some (.int .i64 y.ro.depth) ∧ w'.cell? ⟨b2, o2 + k * 5 + 1, none⟩ = some (.int .i64 y.ro.kind) ∧ w'.cell? ⟨b2, o2 + k * 5 + 2, none⟩ = some (.string y.ro.name) ∧ w'.cell? ⟨b2, o2 + k * 5 + 3, none⟩ = some (.string y.ro.data) ∧ w'.cell? ⟨b2, o2 + k * 5 + 4, none⟩ = some (.slice y.A y.ro.attrs.length y.c)) (go_keep) (first | fail)
          all_goals go_wp2_with fail
          all_goals go_meet
          · obtain ⟨q1, q2, q3⟩ := two_boxes wr x y
            exact ⟨_, _, rfl, rfl, q1, q2, q3⟩
          · obtain ⟨q1, q2, q3⟩ := two_boxes wr y x
            exact ⟨_, _, rfl, rfl, q2, q1, q3⟩
        case rest =>
          obtain ⟨g, h, rfl, rfl, hg, hh, hb2⟩ := hcut
          have HX := Lib.hid ((HXA.out.2.2.2.1.below hb2).more hb2.size); have HY := Lib.hid ((HYA.out.2.2.2.1.below hb2).more hb2.size); have HB := Lib.hid (hbel.trans (hb2.mono hsz))
          have a1 := HXA.out.1; have a2 := HXA.out.2.2.1; have a3 := HYA.out.1; have a4 := HYA.out.2.2.1
          obtain ⟨c0, c1, c2, c3, c4⟩ := range5z hg
          obtain ⟨d0, d1, d2, d3, d4⟩ := range5z hh
          clear hg hh hb2 f0 f1 f2 f3 f4 g0 g1 g2 g3 g4 ef0 eg0
          cases h1 : x.ro.depth == y.ro.depth with
          | false =>
            obtain rfl := V2.out (fun e => by rw [e] at h1; simp at h1)
            have n1 : (x.ro.depth != y.ro.depth) = true := by rw [bne, h1]; rfl
            go_wp2
            go_ret
            exact ⟨rfl, HB.out⟩
          | true =>
          have n1 : (x.ro.depth != y.ro.depth) = false := by rw [bne, h1]; rfl
          cases h2 : x.ro.kind == y.ro.kind with
          | false =>
            obtain rfl := V2.out (fun e => by rw [e] at h2; simp at h2)
            have n2 : (x.ro.kind != y.ro.kind) = true := by rw [bne, h2]; rfl
            go_wp2
            go_ret
            exact ⟨rfl, HB.out⟩
          | true =>
          have n2 : (x.ro.kind != y.ro.kind) = false := by rw [bne, h2]; rfl
          cases h3 : x.ro.name.toList == y.ro.name.toList with
          | false =>
            obtain rfl := V2.out (fun e => by rw [e] at h3; simp at h3)
            go_wp2
            go_ret
            exact ⟨rfl, HB.out⟩
          | true =>
          cases h4 : x.ro.data.toList == y.ro.data.toList with
          | false =>
            obtain rfl := V2.out (fun e => by rw [e] at h4; simp at h4)
            go_wp2
            go_ret
            exact ⟨rfl, HB.out⟩
          | true =>
          by_cases h5 : x.ro.attrs = y.ro.attrs
          · have hxy : x.ro = y.ro := of_decide_eq_true (by rw [ro_eq, h1, h2, h3, h4, decide_eq_true h5]; rfl)
            have HV := Lib.hid (V1.out hxy)
            have H5 := Lib.hid h5
            clear hxy h5
            go_wp2_with fail
            refine (refAttrs_any x.A y.A x.c y.c x.ro.attrs y.ro.attrs wc HX.out HY.out a1 a3 a2 a4).mono ?_
            rintro e w3 ⟨rfl, n, rfl⟩
            rw [decide_eq_true H5.out]
            go_wp2
            go_roundw
            case rel => exact ⟨k + 1, by go_num, by omega, HV.out, below_dN HB.out _⟩
            case measure => simp [intOf]; omega
          · obtain rfl := V2.out (fun e => h5 (by rw [e]))
            have H5 := Lib.hid h5
            clear h5
            go_wp2_with fail
            refine (refAttrs_any x.A y.A x.c y.c x.ro.attrs y.ro.attrs wc HX.out HY.out a1 a3 a2 a4).mono ?_
            rintro e w3 ⟨rfl, n, rfl⟩
            rw [decide_eq_false H5.out]
            go_wp2
            go_ret
            exact ⟨rfl, below_dN HB.out _⟩
      · rw [List.drop_eq_nil_of_le (by omega), List.drop_eq_nil_of_le (by have := HL.out; omega)] at hv
        have HV := Lib.hid hv
        clear hv
        go_wp2
        go_ret
        exact ⟨ret_bool (by rw [← HV.out]; rfl), hbel⟩
  · have e : decide (ros l = ros r) = false := decide_eq_false fun e => hlen (by rw [← len_ros, e, len_ros])
    rw [e]
    have hne : ((l.length : Int) != (r.length : Int)) = true := by rw [bne_iff_ne]; omega
    clear e hlen
    go_enter Try.func26, Try.ntmps26
    go_wp2
    go_ret
    exact ⟨rfl, Below.refl _ _⟩

end Go.Proofs.Ytmlchbohijolaaa.Ro

namespace Go.Proofs.Ytmlchbohijolaaa.Ro
set_option linter.unusedVariables false
set_option linter.unusedSimpArgs false
open Go.RowKit Ba Go.Shelf
attribute [local go_sem] Oper.semAt_some

theorem box_own {W W' : World} {B n : Nat} {t : TypeId} {v : Value} {row : Option Nat} (h : Boxed W B t v) (hg : W.grownBy W' row) (hr : ∀ r, row = some r → n ≤ r ∧ ∃ o : Obj, W.heap[r]? = some o ∧ o.isCells = false) : Boxed W' B t v :=
  h.kept hg fun e => by
    obtain ⟨_, o, ho, hc⟩ := hr B e.symm
    rw [show W.heap[B]? = _ from h] at ho
    cases ho
    cases hc

/-- Where the kid of that number stands, or the next one behind all kids would. -/
def placeAt (l : List Ro) (i at_ : Int) : Int × Bool :=
  if 0 ≤ at_ ∧ at_ < (kids l i).length then (((kids l i)[at_.toNat]?.getD 0 : Nat), true) else (endOf l i, decide (((kids l i).length : Int) = at_))

/-- What the rounds leave: the boxes of the number that is sought, the results, and the count. -/
def Pl (w : World) (at_ : Int) (pre : List Nat) (W : World) : Prop :=
  Boxed W (w.heap.size) 3 (.int .i64 at_) ∧ Boxed W (w.heap.size + 1) 3 (.int .i64 0) ∧ Boxed W (w.heap.size + 1 + 1) 4 (.bool false) ∧ Boxed W (w.heap.size + 1 + 1 + 1) 3 (.int .i64 (pre.length : Nat)) ∧ Below w.heap.size w W ∧ w.heap.size + 1 + 1 + 1 + 1 + 1 + 1 ≤ W.heap.size ∧ ¬ (0 ≤ at_ ∧ at_ < pre.length)
def Px (w : World) (at_ : Int) (c : Code) (pre : List Nat) (W : World) : Prop :=
  c = .ret ∧ ∃ q x, pre = q ++ [x] ∧ at_ = (q.length : Nat) ∧ Boxed W (w.heap.size + 1) 3 (.int .i64 (x : Nat)) ∧ Boxed W (w.heap.size + 1 + 1) 4 (.bool true) ∧ Below w.heap.size w W
theorem Pl.own (w : World) (at_ : Int) (n : Nat) (hn : w.heap.size ≤ n) : OwnFrom n (Pl w at_) := fun s W W' row hs hg hr =>
  ⟨box_own hs.1 hg hr, box_own hs.2.1 hg hr, box_own hs.2.2.1 hg hr, box_own hs.2.2.2.1 hg hr, hs.2.2.2.2.1.grown hg hs.2.2.2.2.1.size (fun k hk => Nat.le_trans hn (hr k hk).1), Nat.le_trans hs.2.2.2.2.2.1 hg.size, hs.2.2.2.2.2.2⟩
theorem Px.own (w : World) (at_ : Int) (c : Code) (n : Nat) (hn : w.heap.size ≤ n) : OwnFrom n (Px w at_ c) := fun s W W' row hs hg hr => by
  obtain ⟨hc, q, x, e1, e2, h1, h2, h3⟩ := hs
  exact ⟨hc, q, x, e1, e2, box_own h1 hg hr, box_own h2 hg hr, h3.grown hg h3.size (fun k hk => Nat.le_trans hn (hr k hk).1)⟩
end Go.Proofs.Ytmlchbohijolaaa.Ro

namespace Go.Proofs.Ytmlchbohijolaaa.Ro
set_option linter.unusedVariables false
set_option linter.unusedSimpArgs false
open Go.RowKit Ba
theorem Rn.at_ {w : World} {N : Nat} {A : Option Addr} {l : List Nat} (h : Rn w N A l) (k : Nat) (hk : k < l.length) :
    ∃ b off x, A = some ⟨b, off, none⟩ ∧ b < N ∧ l.drop k = x :: l.drop (k + 1) ∧ w.cell? ⟨b, off + k, none⟩ = some (.int .i64 (x : Nat)) := by
  obtain ⟨b, off, e, hb, hc⟩ := h (by omega)
  exact ⟨b, off, l[k], e, hb, List.drop_eq_getElem_cons hk, hc k hk⟩

end Go.Proofs.Ytmlchbohijolaaa.Ro

namespace Go.Proofs.Ytmlchbohijolaaa.Ro
set_option maxRecDepth 100000
set_option linter.unusedVariables false
set_option linter.unusedSimpArgs false
open Go.RowKit Ba
/-- Is it what has the roots, or an element? -/
def elemAt (l : List Ro) (p : Int) : Bool := decide (p = -1) || (decide (0 ≤ p ∧ p < l.length) && decide (((l[p.toNat]?).map (·.kind)).getD 1 = 0))
def put (l : List Ro) (p at_ : Int) (sub : List Ro) : Int × List Ro :=
  if elemAt l p = false then (41, [])
  else if (placeAt l p at_).2 = false then (1, [])
  else if right sub = false then (40, [])
  else if exceeds sub (4096 - l.length) (60 - (dep l p + 1)) = true then (2, [])
  else (0, l.take (placeAt l p at_).1.toNat ++ deeper (dep l p + 1) sub ++ l.drop (placeAt l p at_).1.toNat)

theorem Rr.take {w : World} {N : Nat} {A : Option Addr} {l : List Cw} (h : Rr w N A l) (k : Nat) : Rr w N A (l.take k) := by
  refine ⟨fun h0 => ?_, fun x hx => h.2 x (List.mem_of_mem_take hx)⟩
  rw [List.length_take] at h0
  obtain ⟨b, off, e, hb, hcc⟩ := h.1 (by omega)
  refine ⟨b, off, e, hb, fun j hj => ?_⟩
  rw [List.length_take] at hj
  rw [List.getElem_take]
  exact hcc j (by omega)
theorem Rr.rest {w : World} {N : Nat} {A : Option Addr} {l : List Cw} (h : Rr w N A l) (k cap : Nat) (hk : k ≤ l.length) (hc : l.length ≤ cap) : Rr w N (if cap = k then A else A.map (·.add (k * 5))) (l.drop k) := by
  have := h.part k l.length cap hk (Nat.le_refl _) hc
  rwa [List.take_length] at this
end Go.Proofs.Ytmlchbohijolaaa.Ro

namespace Go.Proofs.Ytmlchbohijolaaa.Ro
set_option maxRecDepth 100000
set_option linter.unusedVariables false
set_option linter.unusedSimpArgs false
open Go.RowKit Ba
theorem Deep.held {l : List Ro} (h : Deep l) : Held l := fun x hx => by have := h x hx; omega

end Go.Proofs.Ytmlchbohijolaaa.Ro

namespace Go.Proofs.Ytmlchbohijolaaa.Ro
set_option maxRecDepth 100000
set_option linter.unusedVariables false
set_option linter.unusedSimpArgs false
open Go.RowKit Ba
/-- A value reads as rows. -/
def Rv (w : World) (v : Value) (l : List Cw) : Prop := ∃ A c, v = .slice A l.length c ∧ l.length ≤ c ∧ c ≤ maxLen ∧ Rr w w.heap.size A l ∧ Held (ros l)
theorem Rv.below {w w' : World} {v : Value} {l : List Cw} (h : Rv w v l) (hb : Below w.heap.size w w') : Rv w' v l := by
  obtain ⟨A, c, e, h1, h2, h3, h4⟩ := h
  exact ⟨A, c, e, h1, h2, (h3.below hb).more hb.size, h4⟩
theorem Ow.rv {N : Nat} {w : World} {v : Value} {l : List Cw} (h : Ow N w v l) (hh : Held (ros l)) : Rv w v l := by
  obtain ⟨A, c, e, h1, h2, _, h3⟩ := h.form
  exact ⟨A, c, e, h1, h2, h3, hh⟩
theorem refSame1 (a b : Value) (x y : List Cw) (w : World) (q : Bool) (ha : Rv w a x) (hb : Rv w b y) (hx : x.length ≤ 1000000) (hy : y.length ≤ 1000000) (hq : decide (ros x = ros y) = q) :
    Calls Try.prog 26 #[a, b] w fun e w' => e = .returned (.bool q) ∧ Below w.heap.size w w' := by
  obtain ⟨A, c, rfl, hc, hm, hr, _⟩ := ha
  obtain ⟨B, d, rfl, hd, hm2, hr2, _⟩ := hb
  subst hq
  exact refSame_any A B c d x y w hr hr2 hc hd (by omega) (by omega)
end Go.Proofs.Ytmlchbohijolaaa.Ro

namespace Go.Proofs.Ytmlchbohijolaaa.Ro
set_option linter.unusedVariables false
set_option linter.unusedSimpArgs false
open Go.RowKit Ba
def sa : ByteArray := { data := #[97] }
def sc : ByteArray := { data := #[99] }
end Go.Proofs.Ytmlchbohijolaaa.Ro

namespace Go.Proofs.Ytmlchbohijolaaa.Ro
set_option maxRecDepth 100000
set_option linter.unusedVariables false
set_option linter.unusedSimpArgs false
open Go.RowKit Ba
end Go.Proofs.Ytmlchbohijolaaa.Ro

namespace Go.Proofs.Ytmlchbohijolaaa.Ro
set_option linter.unusedVariables false
set_option linter.unusedSimpArgs false
open Go.RowKit Ba
end Go.Proofs.Ytmlchbohijolaaa.Ro

namespace Go.Proofs.Ytmlchbohijolaaa.Ro
set_option maxRecDepth 100000
set_option linter.unusedVariables false
set_option linter.unusedSimpArgs false
open Go.RowKit Ba Go.ChangeShapes Go.WideShapes Go.Deep
section
variable {H : Type} {enc : TypeId × Value → H} {P : Program} {w : World} {base : Nat} {spare : Nat → Bool} {held : Bool}
end

section
variable {H : Type} {enc : TypeId × Value → H} {w : World} {base : Nat}
end

section
variable {H : Type} {enc : TypeId × Value → H} {P : Program} {w : World} {base : Nat} {spare : Nat → Bool} {held : Bool}
end

section
variable {H : Type} {enc : TypeId × Value → H} {P : Program} {w : World} {base : Nat} {spare : Nat → Bool} {held : Bool}
end

section
variable {H : Type} {enc : TypeId × Value → H} {w : World}
end

end Go.Proofs.Ytmlchbohijolaaa.Ro

namespace Go.Proofs.Ytmlchbohijolaaa.Ro
set_option maxRecDepth 100000
set_option linter.unusedVariables false
set_option linter.unusedSimpArgs false
open Go.RowKit Ba Go.ChangeShapes Go.WideShapes Go.Deep
section
variable {H : Type} {enc : TypeId × Value → H} {w : World} {base : Nat}
theorem laidOut : laidOutB Try.prog = true := by kernel_rfl
end

end Go.Proofs.Ytmlchbohijolaaa.Ro

namespace Go.Proofs.Ytmlchbohijolaaa.Ro
set_option linter.unusedVariables false
set_option linter.unusedSimpArgs false
open Go.RowKit Ba
end Go.Proofs.Ytmlchbohijolaaa.Ro

namespace Go.Proofs.Ytmlchbohijolaaa.Ro
set_option maxRecDepth 100000
set_option linter.unusedVariables false
set_option linter.unusedSimpArgs false
open Go.RowKit Ba
theorem Nw.nil (N : Nat) (w : World) : Nw N w (.slice none 0 0) [] := World.ownsRow_nil w N _ 1
end Go.Proofs.Ytmlchbohijolaaa.Ro

namespace Go.Proofs.Ytmlchbohijolaaa.Ar
set_option maxRecDepth 100000
set_option linter.unusedSimpArgs false
set_option linter.unusedVariables false
open Go.RowKit Ba
open Ro (At Ro Cw ros Rr Ow Nw Fr Att Ap Sh Ra Rv Held cells acells below_new infoI info_row len_cells rowV rowO Few Fits deeper check parent right nv)
/-- append of one number, which tells that nothing else changed. -/
theorem app_numG {ops : Array Oper} {rest : List Oper} {o : Oper} {a : Act} {Q : Exit → Act → World → Prop} (w : World) (hgd : o.guard = none) (s x : Operand)
    (ho : o.op = .call { callee := .builtin .append, args := #[s, x], argTypes := #[28, 28] })
    (N : Nat) (v : Value) (l : List Nat) (y : Nat) (hs : a.eval s = v) (hown : Nw N w v l) (g : Nat) (hg : g = w.heap.size) (hx : a.eval x = .slice (some ⟨g, 0, none⟩) 1 1)
    (hl : l.length ≤ 2000000) (hN : N ≤ w.heap.size)
    (h : ∀ v' w', Nw N w' v' (l ++ [y]) → w.grownBy w' v.ownBlock → (∀ b, v'.ownBlock = some b → v.ownBlock = some b ∨ w.heap.size ≤ b) → wpList Try.prog ops Q rest (a.put o.dst v') w') :
    wpList Try.prog ops Q (o :: rest) a (w.alloc (.cells #[.int .i64 (y : Nat)] 3)) := by
  subst hg
  obtain ⟨i0, hi, hz0, hz1, hz2⟩ := info_parts infoI
  have hown' : Nw N (w.alloc (.cells #[.int .i64 (y : Nat)] 3)) v l := hown.alloc _
  have hsz : (w.alloc (.cells #[.int .i64 (y : Nat)] 3)).heap.size = w.heap.size + 1 := by simp
  refine wpList_append_lies _ hgd s x 28 ho N 3 i0 (.int .i64 0) 1 8 Try.underlying28 hi hz0 hz1 hz2 rfl (by decide) v l.length (l.map nv) hs hown' ⟨w.heap.size, 0, none⟩ 1 1 [.int .i64 (y : Nat)] hx rfl (cell_one_new _ _ _) (by intro u hu; simp at hu; subst hu; rfl) (by decide) (by unfold maxLen; omega) (by omega) (by omega) _ rfl ?_
  intro g' c' w' ho2 hg2 hl2 _
  refine h _ w' ?_ ((World.grownBy_alloc w _ _).trans hg2) fun b hb => ?_
  · unfold Nw
    rw [List.length_append, List.map_append]
    exact ho2
  · obtain rfl : g' = b := Option.some.inj hb
    rcases hl2 with h | h
    · exact .inl h
    · exact .inr (by rw [h, hsz]; omega)
theorem Doc11.grown {w w' : World} {N : Nat} {F : Nat → Prop} {p : Nat} {M : List Nd} {row : Option Nat} (h : Doc11 w N F p M) (hg : w.grownBy w' row) (hn : ∀ b, row = some b → ¬ F b) : Doc11 w' N F p M := by
  obtain ⟨rk, gX, cX, gU, cU, gR, cR, lX, D⟩ := h
  exact ⟨rk, gX, cX, gU, cU, gR, cR, lX, D.touch (G := fun b => row = some b) (Touch.grown hg fun b hb => hb) fun b hf hb => hn b hb hf⟩
theorem Doc11.bd {w : World} {N : Nat} {F : Nat → Prop} {p : Nat} {M : List Nd} (h : Doc11 w N F p M) : ∀ b, F b → b < w.heap.size := by
  obtain ⟨rk, gX, cX, gU, cU, gR, cR, lX, D⟩ := h
  exact D.bd
theorem nw_touch {K : Nat} {F : Nat → Prop} {w w' : World} {u : Value} {ks : List Nat} (h : Nw K w u ks) (t : Touch F w w') (hn : ∀ b, u.ownBlock = some b → ¬ F b) : Nw K w' u ks := owns_block h fun g hg => t.block g (owns_lt h hg).2.1 (hn g hg)
def rootsTo (first : Nat) (par : Nat → Int) : Nat → List Nat
  | 0 => []
  | i + 1 => if par i < 0 then rootsTo first par i ++ [first + i] else rootsTo first par i
theorem roots_len (first : Nat) (par : Nat → Int) : ∀ i, (rootsTo first par i).length ≤ i
  | 0 => Nat.le_refl _
  | i + 1 => by
    have := roots_len first par i
    rw [rootsTo]
    split
    · rw [List.length_append, List.length_singleton]
      omega
    · omega
def loadE (M : List Nd) (l : List Ro) : Int := if check l = 0 then (if 4096 < M.length + l.length then 2 else 0) else check l
def parI (l : List Ro) (i : Nat) : Int := parent l i
theorem next_grown {w w3 w4 : World} {F F2 : Nat → Prop} {row : Option Nat} (h : Next w w3 F F2) (hg : w3.grownBy w4 row) (hr : ∀ b, row = some b → w.heap.size ≤ b) : Next w w4 F F2 := by
  have hs := hg.size
  refine ⟨⟨hg.os.trans h.1.os, hg.tape.trans h.1.tape, hg.output.trans h.1.output, Nat.le_trans h.1.size hs, fun b hb hf => ?_⟩, h.2.1, fun b hb => ?_⟩
  · refine (hg.block b (Nat.lt_of_lt_of_le hb h.1.size) fun e => ?_).trans (h.1.block b hb hf)
    have := hr b e.symm
    omega
  · rcases h.2.2 b hb with h | h
    · exact .inl h
    · exact .inr ⟨h.1, by omega⟩
theorem check_right {l : List Ro} (h : check l = 0) : right l = true := by
  unfold check at h
  cases h2 : right l with
  | true => rfl
  | false =>
    rw [h2] at h
    split at h <;> revert h <;> decide
theorem upr_lt (l : List Ro) (d : Int) : ∀ n : Nat, Ro.up l d n < n ∧ -1 ≤ Ro.up l d n
  | 0 => by
    rw [Ro.up]
    omega
  | n + 1 => by
    have := upr_lt l d n
    rw [Ro.up]
    split <;> omega
theorem par_lt (l : List Ro) {j : Nat} (hj : j < l.length) : parI l j < j ∧ -1 ≤ parI l j := by
  unfold parI parent
  split
  · have := upr_lt l (Ro.dep l (j : Int)) (j : Int).toNat
    rw [Int.toNat_natCast] at this
    exact this
  · omega
theorem kids_bound {M : List Nd} (W : Wf M) (hm : M.length ≤ 5000) (n : Nat) : (nd M n).kids.length ≤ 5000 := Nat.le_trans (nodup_bound (W.nodup n) fun x hx => ((W.kid n x).1 hx).1) hm
end Go.Proofs.Ytmlchbohijolaaa.Ar

namespace Go.Proofs.Ytmlchbohijolaaa.Ar
set_option linter.unusedSimpArgs false
set_option linter.unusedVariables false
open Ro (At Ro deeper right rightFrom parent dep hasRow)
theorem rf_steps : ∀ (l : List Ro) (m : Int), rightFrom m l = true → ∀ (j : Nat) (x : Ro), l[j]? = some x → (0 : Int) ≤ x.depth ∧ (j = 0 → x.depth ≤ m) ∧ ∀ y : Ro, 0 < j → l[j - 1]? = some y → x.depth ≤ y.depth + 1
  | [], _, _, j, x, hx => by simp at hx
  | a :: r, m, h, 0, x, hx => by
    rw [rightFrom, Bool.and_eq_true, Bool.and_eq_true, Bool.and_eq_true] at h
    obtain ⟨⟨⟨h1, h2⟩, h3⟩, h4⟩ := h
    have hx : a = x := by simpa using hx
    subst hx
    exact ⟨of_decide_eq_true h1, fun _ => of_decide_eq_true h2, fun y h0 => absurd h0 (Nat.lt_irrefl _)⟩
  | a :: r, m, h, j + 1, x, hx => by
    rw [rightFrom, Bool.and_eq_true, Bool.and_eq_true, Bool.and_eq_true] at h
    obtain ⟨⟨⟨h1, h2⟩, h3⟩, h4⟩ := h
    have hx : r[j]? = some x := by simpa using hx
    obtain ⟨k1, k2, k3⟩ := rf_steps r _ h4 j x hx
    refine ⟨k1, fun h => by omega, fun y _ hy => ?_⟩
    cases j with
    | zero =>
      have hy : a = y := by simpa using hy
      subst hy
      have := k2 rfl
      split at this <;> omega
    | succ j =>
      exact k3 y (by omega) (by simpa using hy)
/-- At each depth down to the last row's the number of the last row there, from first on. -/
def Stk (l : List Ro) (first j : Nat) (os : List Nat) : Prop := (j = 0 → os = []) ∧ (∀ y : Ro, 0 < j → l[j - 1]? = some y → (os.length : Int) = y.depth + 1) ∧ ∀ d (h : d < os.length), 0 ≤ Ro.up l ((d : Int) + 1) j ∧ os[d] = first + (Ro.up l ((d : Int) + 1) j).toNat
theorem stk_nil (l : List Ro) (first : Nat) : Stk l first 0 [] := ⟨fun _ => rfl, fun _ h => absurd h (Nat.lt_irrefl _), fun d h => absurd h (Nat.not_lt_zero _)⟩
theorem up_none (l : List Ro) (d : Int) : ∀ n : Nat, (∀ i < n, d ≤ dep l (i : Nat)) → Ro.up l d n = -1
  | 0, _ => rfl
  | n + 1, h => by
    rw [Ro.up, if_neg (by have := h n (Nat.lt_succ_self n); omega)]
    exact up_none l d n fun i hi => h i (by omega)
theorem stk_le {l : List Ro} (h : right l = true) {first j : Nat} {os : List Nat} (s : Stk l first j os) {x : Ro} (hx : l[j]? = some x) : 0 ≤ x.depth ∧ x.depth ≤ os.length := by
  obtain ⟨h1, h2, h3⟩ := rf_steps l 0 h j x hx
  refine ⟨h1, ?_⟩
  by_cases h0 : j = 0
  · have := h2 h0
    omega
  · have hl := (List.getElem?_eq_some_iff.1 hx).1
    obtain ⟨y, hy⟩ : ∃ y, l[j - 1]? = some y := ⟨_, List.getElem?_eq_getElem (by omega)⟩
    have := h3 y (by omega) hy
    have := s.2.1 y (by omega) hy
    omega
theorem stk_next {l : List Ro} (h : right l = true) {first j : Nat} {os : List Nat} (s : Stk l first j os) {x : Ro} (hx : l[j]? = some x) {D : Nat} (hD : x.depth = D) : Stk l first (j + 1) (os.take D ++ [first + j]) := by
  obtain ⟨h1, h2⟩ := stk_le h s hx
  have hdo : D ≤ os.length := by omega
  have hdj : dep l (j : Nat) = D := by rw [Ro.dep_at hx, hD]
  refine ⟨fun h => absurd h (Nat.succ_ne_zero j), fun y _ hy => ?_, fun d hd => ?_⟩
  · rw [Nat.add_sub_cancel] at hy
    rw [hx] at hy
    obtain rfl := Option.some.inj hy
    rw [List.length_append, List.length_take, List.length_singleton, hD]
    omega
  · rw [List.length_append, List.length_take, List.length_singleton] at hd
    rw [Ro.up, hdj]
    by_cases hdD : d < D
    · rw [if_neg (by omega), List.getElem_append_left (by rw [List.length_take]; omega), List.getElem_take]
      exact s.2.2 d (by omega)
    · obtain rfl : d = D := by omega
      rw [if_pos (by omega), List.getElem_append_right (by rw [List.length_take]; omega)]
      refine ⟨by omega, ?_⟩
      simp
theorem stk_root {l : List Ro} (h : right l = true) {j : Nat} {x : Ro} (hx : l[j]? = some x) (h0 : x.depth = 0) : parI l j < 0 := by
  have hl := (List.getElem?_eq_some_iff.1 hx).1
  have hh : hasRow l (j : Nat) = true := by
    unfold hasRow
    exact decide_eq_true ⟨by omega, by omega⟩
  unfold parI parent
  rw [if_pos hh, Ro.dep_at hx, h0, Int.toNat_natCast, up_none]
  · decide
  · intro i hi
    obtain ⟨y, hy⟩ : ∃ y, l[i]? = some y := ⟨_, List.getElem?_eq_getElem (by omega)⟩
    rw [Ro.dep_at hy]
    exact (rf_steps l 0 h i y hy).1
theorem stk_kid {l : List Ro} (h : right l = true) {first j : Nat} {os : List Nat} (s : Stk l first j os) {x : Ro} (hx : l[j]? = some x) {D : Nat} (hD : x.depth = ((D + 1 : Nat) : Int)) : ∃ k : Nat, parI l j = k ∧ k < j ∧ ∃ hd : D < os.length, os[D] = first + k := by
  have hl := (List.getElem?_eq_some_iff.1 hx).1
  obtain ⟨h1, h2⟩ := stk_le h s hx
  have hd : D < os.length := by omega
  obtain ⟨h3, h4⟩ := s.2.2 D hd
  have hh : hasRow l (j : Nat) = true := by
    unfold hasRow
    exact decide_eq_true ⟨by omega, by omega⟩
  have e : parI l j = Ro.up l ((D : Int) + 1) j := by
    unfold parI parent
    rw [if_pos hh, Ro.dep_at hx, hD, Int.toNat_natCast]
    rfl
  have h5 := (upr_lt l ((D : Int) + 1) j).1
  refine ⟨(Ro.up l ((D : Int) + 1) j).toNat, by rw [e]; omega, by omega, hd, h4⟩
end Go.Proofs.Ytmlchbohijolaaa.Ar

namespace Go.Proofs.Ytmlchbohijolaaa.Ar
set_option maxRecDepth 100000
set_option linter.unusedSimpArgs false
set_option linter.unusedVariables false
open Go.RowKit Ba
open Ro (At Ro Cw ros Rr Ow Nw Fr Att Ap Sh Ra Rv Held cells acells below_new infoI info_row len_cells rowV rowO Few Fits deeper check parent right nv)
/-! ### What Clone answers. -/
def cloneE (M : List Nd) (n : Int) : Int × Int := if n < 1 ∨ (M.length : Int) ≤ n then (0, 110) else if 4096 < M.length + (rowsM M n).length then (0, 2) else ((M.length : Int), 0)
def cloneM (M : List Nd) (n : Int) : List Nd := if n < 1 ∨ (M.length : Int) ≤ n ∨ 4096 < M.length + (rowsM M n).length then M else loadTo M.length (rowsM M n) (parI (rowsM M n)) M (rowsM M n).length
theorem tree_attrs {M : List Nd} : ∀ (f n : Nat) (d : Int), ∀ x ∈ treeF M f n d, ∃ m, x.attrs = (nd M m).ro.attrs
  | 0, _, _, x, h => by cases h
  | f + 1, n, d, x, h => by
    rw [treeF, List.mem_cons] at h
    rcases h with rfl | h
    · exact ⟨n, rfl⟩
    · obtain ⟨k, _, hk⟩ := List.mem_flatMap.1 h
      exact tree_attrs f k (d + 1) x hk
theorem few_rows {M : List Nd} (hf : Few (M.map Nd.ro)) (n : Int) : Few (rowsM M n) := by
  have key : ∀ k d, Few (tr M k d) := fun k d x hx => by
    obtain ⟨m, hm⟩ := tree_attrs _ _ _ x hx
    rw [hm]
    by_cases h : m < M.length
    · rw [nd_at h]
      exact hf _ (List.mem_map.2 ⟨_, List.getElem_mem h, rfl⟩)
    · rw [nd_out h]
      exact Nat.zero_le _
  unfold rowsM
  split
  · split
    · intro x hx
      obtain ⟨k, _, hk⟩ := List.mem_flatMap.1 hx
      exact key k 0 x hk
    · exact key _ _
  · intro x hx
    cases hx
theorem right_held : ∀ (l : List Ro) (m : Int), Ro.rightFrom m l = true → ∀ x ∈ l, 0 ≤ x.depth ∧ x.depth ≤ m + l.length
  | [], _, _, x, h => by cases h
  | a :: r, m, hr, x, h => by
    rw [Ro.rightFrom, Bool.and_eq_true, Bool.and_eq_true, Bool.and_eq_true] at hr
    obtain ⟨⟨⟨h1, h2⟩, _⟩, h4⟩ := hr
    have h1 := of_decide_eq_true h1
    have h2 := of_decide_eq_true h2
    rw [List.length_cons]
    rcases List.mem_cons.1 h with rfl | h
    · omega
    · have h5 := right_held r _ h4 x h
      split at h5 <;> omega
/-- Rows of one's own are kept where only a document is touched. -/
theorem rv_keep {K : Nat} {F : Nat → Prop} {w w' : World} {A : Option Addr} {c : Nat} {l : List Cw} (hr : Rr w w.heap.size A l) (hc : l.length ≤ c) (hm : c ≤ maxLen) (hh : Held (ros l)) (hf : ∀ x ∈ l, Fr K w x) (hA : ∀ b, A.map Addr.block = some b → K ≤ b) (hK : ∀ b, F b → b < K) (t : Touch F w w') : Rv w' (.slice A l.length c) l := by
  refine ⟨A, c, rfl, hc, hm, ⟨fun h0 => ?_, fun x hx => ?_⟩, hh⟩
  · obtain ⟨b, off, he, hb, hcell⟩ := hr.1 h0
    refine ⟨b, off, he, Nat.lt_of_lt_of_le hb t.size, fun j hj i u hu => ?_⟩
    rw [← hcell j hj i u hu]
    refine World.cell?_of_block (a := ⟨b, off + j * 5 + i, none⟩) (t.block b hb fun hF => ?_)
    have h1 := hK b hF
    have h2 := hA b (by rw [he]; rfl)
    omega
  · refine Fr.att (N := K) (Fr.block (hf x hx) fun g hg => ?_)
    obtain ⟨h1, h2, _⟩ := owns_lt (hf x hx).1 hg
    exact t.block g h2 fun hF => by have := hK g hF; omega
end Go.Proofs.Ytmlchbohijolaaa.Ar

namespace Go.Proofs.Ytmlchbohijolaaa.To
set_option maxRecDepth 100000
set_option linter.unusedSimpArgs false
set_option linter.unusedVariables false
open Go.RowKit Ba
open Ro (At acells len_acells below_new Sh Ra acells_one info_attr)
/-- Attributes of the call's own. -/
def Aw (N : Nat) (w : World) (v : Value) (l : List At) : Prop := w.ownsRow N 63 2 v l.length (l.flatMap acells) ∧ Sh l
theorem Aw.nil (N : Nat) (w : World) : Aw N w (.slice none 0 0) [] := ⟨World.ownsRow_nil w N _ 2, fun _ h => by simp at h⟩
theorem Aw.low {N b : Nat} {w : World} {v : Value} {l : List At} (h : Aw N w v l) (hb : b < N) : v.ownBlock ≠ some b := fun e => by
  have := (World.ownsRow.lt h.1 b e).1
  omega
theorem Aw.kept {N : Nat} {w w' : World} {v : Value} {l : List At} {row : Option Nat} (h : Aw N w v l) (hg : w.grownBy w' row) (hne : v.ownBlock = none ∨ v.ownBlock ≠ row) : Aw N w' v l := ⟨World.ownsRow.kept h.1 hg hne, h.2⟩
theorem Aw.alloc {N : Nat} {w : World} {v : Value} {l : List At} (h : Aw N w v l) (o : Obj) : Aw N (w.alloc o) v l := ⟨World.ownsRow.alloc h.1 o, h.2⟩
theorem Aw.form {N : Nat} {w : World} {v : Value} {l : List At} (h : Aw N w v l) : ∃ A c, v = .slice A l.length c := by
  rcases h.1.2 with ⟨hv, hl⟩ | ⟨g, cap, cur, hv, _⟩
  · exact ⟨none, 0, by rw [hl]; exact hv⟩
  · exact ⟨_, _, hv⟩

theorem attr_cells_new (w : World) (x : At) : ∀ j u, (acells x)[j]? = some u → (w.alloc (.cells #[.string x.name, .string x.value] 63)).cell? ((⟨w.heap.size, 0, none⟩ : Addr).add j) = some u := fun j u hu => by
  rw [WideShapes.add_plain, Nat.zero_add, World.cell?_alloc_mark]
  match j with
  | 0 => exact hu
  | 1 => exact hu
  | j + 2 => simp [acells] at hu
end Go.Proofs.Ytmlchbohijolaaa.To

namespace Go.Proofs.Ytmlchbohijolaaa.Ar
set_option maxRecDepth 100000
set_option linter.unusedSimpArgs false
set_option linter.unusedVariables false
open Go.RowKit Ba
open Ro (At Ro Cw ros Rr Ow Nw Fr Att Ap Sh Ra cells acells below_new infoI info_row len_cells rowV rowO Few Fits deeper)
open To (Aw)
open Na (mayB)
/-! ### What Attr answers. -/
def atF (nm v : ByteArray) (a : At) : At := if a.name = nm then ⟨a.name, v⟩ else a
def putB (l : List At) (nm : ByteArray) : Bool := l.any fun a => decide (a.name = nm)
def atSet (l : List At) (nm v : ByteArray) : List At := if putB l nm then l.map (atF nm v) else l.map (atF nm v) ++ [(⟨nm, v⟩ : At)]
def attrE11 (M : List Nd) (n : Int) (nm : ByteArray) : Int := if elB11 M n then (if mayB nm true then 0 else 1) else 110
def attrM11 (M : List Nd) (n : Int) (nm v : ByteArray) : List Nd := if elB11 M n && mayB nm true then rowM M n.toNat fun r => { r with attrs := atSet r.attrs nm v } else M
theorem el_nat {M : List Nd} {n : Int} (h : elB11 M n = true) : ∃ k : Nat, n = k ∧ k < M.length ∧ k ≠ 0 ∧ (nd M k).ro.kind = 0 := by
  unfold elB11 at h
  rw [Bool.and_eq_true, Bool.and_eq_true] at h
  obtain ⟨⟨h1, h2⟩, h3⟩ := h
  have h1 := of_decide_eq_true h1
  have h2 := of_decide_eq_true h2
  have h3 := of_decide_eq_true h3
  exact ⟨n.toNat, by omega, by omega, by omega, h3⟩
theorem RD.cellAt {w : World} {N : Nat} {F : Nat → Prop} {p : Nat} {M : List Nd} {rk : List Int} {gX cX gU cU gR cR : Nat} {lX : List Cw} (h : RD w N F p M rk gX cX gU cU gR cR lX) {k : Nat} (hk : k < M.length) {x : Cw} (hx : lX[k]? = some x) : x.ro = (nd M k).ro ∧ Att w w.heap.size x ∧ ∀ j u, (cells x)[j]? = some u → w.cell? ⟨gX, k * 5 + j, none⟩ = some u := by
  obtain ⟨x', h0, h1, h2, h3⟩ := h.cellX hk
  rw [hx] at h0
  obtain rfl := Option.some.inj h0
  exact ⟨h1, h2, h3⟩
end Go.Proofs.Ytmlchbohijolaaa.Ar

namespace Go.Proofs.Ytmlchbohijolaaa.Ar
set_option maxRecDepth 100000
set_option linter.unusedSimpArgs false
set_option linter.unusedVariables false
open Go.RowKit Ba
open Ro (At Ro Cw ros Rr Ow Nw Fr Att Ap Sh Ra cells acells below_new infoI info_row len_cells rowV rowO Few Fits deeper)
open To (Aw)
/-! ### What Drop answers. -/
def dropL (l : List At) (nm : ByteArray) : List At := l.filter fun a => !decide (a.name = nm)
def dropE11 (M : List Nd) (n : Int) (nm : ByteArray) : Int := if elB11 M n then (if (dropL (nd M n.toNat).ro.attrs nm).length = (nd M n.toNat).ro.attrs.length then 1 else 0) else 110
def dropM11 (M : List Nd) (n : Int) (nm : ByteArray) : List Nd := if elB11 M n && !decide ((dropL (nd M n.toNat).ro.attrs nm).length = (nd M n.toNat).ro.attrs.length) then rowM M n.toNat fun r => { r with attrs := dropL r.attrs nm } else M
end Go.Proofs.Ytmlchbohijolaaa.Ar

namespace Go.Proofs.Ytmlchbohijolaaa.Ar
set_option linter.unusedSimpArgs false
set_option linter.unusedVariables false
open Ro (At Ro deeper okRow right rightFrom parent dep hasRow twice Few)
open Na (mayB)
theorem rf_kind : ∀ (l : List Ro) (m : Int), rightFrom m l = true → ∀ (j : Nat) (x y : Ro), l[j + 1]? = some x → l[j]? = some y → y.kind ≠ 0 → x.depth ≤ y.depth
  | [], _, _, j, x, y, hx, _, _ => by simp at hx
  | a :: r, m, h, j, x, y, hx, hy, hk => by
    rw [rightFrom, Bool.and_eq_true, Bool.and_eq_true, Bool.and_eq_true] at h
    obtain ⟨_, h4⟩ := h
    cases j with
    | zero =>
      have hy : a = y := by simpa using hy
      subst hy
      rw [if_neg hk] at h4
      have hx : r[0]? = some x := by simpa using hx
      exact (rf_steps r _ h4 0 x hx).2.1 rfl
    | succ j =>
      exact rf_kind r _ h4 j x y (by simpa using hx) (by simpa using hy) hk
theorem rf_ok : ∀ (l : List Ro) (m : Int), rightFrom m l = true → ∀ x ∈ l, okRow x = true
  | [], _, _, x, hx => by cases hx
  | a :: r, m, h, x, hx => by
    rw [rightFrom, Bool.and_eq_true, Bool.and_eq_true, Bool.and_eq_true] at h
    obtain ⟨⟨_, h3⟩, h4⟩ := h
    rcases List.mem_cons.1 hx with rfl | hx
    · exact h3
    · exact rf_ok r _ h4 x hx
theorem up_spec (l : List Ro) (d : Int) : ∀ (n k : Nat), Ro.up l d n = k → k < n ∧ dep l k < d ∧ ∀ i : Nat, k < i → i < n → d ≤ dep l i
  | 0, k, h => by
    rw [Ro.up] at h
    omega
  | n + 1, k, h => by
    rw [Ro.up] at h
    by_cases hd : dep l n < d
    · rw [if_pos hd] at h
      obtain rfl : n = k := by omega
      exact ⟨Nat.lt_succ_self _, hd, fun i h1 h2 => by omega⟩
    · rw [if_neg hd] at h
      obtain ⟨h1, h2, h3⟩ := up_spec l d n k h
      refine ⟨by omega, h2, fun i h4 h5 => ?_⟩
      by_cases e : i = n
      · subst e
        omega
      · exact h3 i h4 (by omega)
theorem parent_kind {l : List Ro} (h : right l = true) {j k : Nat} (hj : j < l.length) (hp : parI l j = k) : ∃ y, l[k]? = some y ∧ y.kind = 0 := by
  have hh : hasRow l (j : Nat) = true := by
    unfold hasRow
    exact decide_eq_true ⟨by omega, by omega⟩
  unfold parI parent at hp
  rw [if_pos hh, Int.toNat_natCast] at hp
  obtain ⟨h1, h2, h3⟩ := up_spec l _ j k hp
  have hkl : k < l.length := by omega
  refine ⟨l[k], List.getElem?_eq_getElem hkl, ?_⟩
  apply Decidable.byContradiction
  intro hk
  have h4 := rf_kind l 0 h k l[k + 1] l[k] (List.getElem?_eq_getElem (by omega)) (List.getElem?_eq_getElem hkl) hk
  rw [Ro.dep_at (List.getElem?_eq_getElem hkl)] at h2
  by_cases e : k + 1 = j
  · subst e
    rw [Ro.dep_at (List.getElem?_eq_getElem hj)] at h2
    omega
  · have h5 := h3 (k + 1) (by omega) (by omega)
    rw [Ro.dep_at (List.getElem?_eq_getElem (by omega : k + 1 < l.length))] at h5
    omega
theorem ro_add (M : List Nd) (x : Ro) : (addM M x).map Nd.ro = M.map Nd.ro ++ [{ x with depth := 0 }] := by
  unfold addM
  rw [List.map_append]
  rfl
theorem load_ro (l : List Ro) (par : Nat → Int) (M : List Nd) (first : Nat) : ∀ i, i ≤ l.length → (loadTo first l par M i).map Nd.ro = M.map Nd.ro ++ (l.take i).map (fun x => { x with depth := 0 })
  | 0, _ => by simp [loadTo]
  | i + 1, hi => by
    have ih := load_ro l par M first i (by omega)
    have hg : (l[i]?).getD ⟨0, 0, ⟨#[]⟩, ⟨#[]⟩, []⟩ = l[i] := by
      rw [List.getElem?_eq_getElem (by omega)]
      rfl
    have ht : l.take (i + 1) = l.take i ++ [l[i]] := by
      rw [List.take_add_one, List.getElem?_eq_getElem (by omega)]
      rfl
    rw [loadTo]
    split
    · rw [ro_add, ih, hg, ht, List.map_append, List.append_assoc]
      rfl
    · rw [ro_set, ro_add, ih, hg, ht, List.map_append, List.append_assoc]
      rfl
theorem nd_ro {M : List Nd} {L : List Ro} (h : M.map Nd.ro = L) {n : Nat} {x : Ro} (hx : L[n]? = some x) : (nd M n).ro = x := by
  rw [← h, List.getElem?_map] at hx
  cases hm : M[n]? with
  | none =>
    rw [hm] at hx
    cases hx
  | some y =>
    rw [hm] at hx
    unfold nd
    rw [hm]
    exact Option.some.inj hx
/-- What the nodes of a document keep: well-formed, right but for the root, few attributes. -/
structure Inv (B : Nat) (M : List Nd) : Prop where
  wf : Wf M
  good : Good M
  lim : ∀ x ∈ M.map Nd.ro, x.attrs.length ≤ B
  root : (nd M 0).ro = ro00
theorem Inv.few {B : Nat} {M : List Nd} (h : Inv B M) (hB : B ≤ 1000000) : Few (M.map Nd.ro) := fun x hx => Nat.le_trans (h.lim x hx) hB
theorem Inv.more {B C : Nat} {M : List Nd} (h : Inv B M) (hB : B ≤ C) : Inv C M := ⟨h.wf, h.good, fun x hx => Nat.le_trans (h.lim x hx) hB, h.root⟩
theorem inv_M0 : Inv 0 M0 := by
  refine ⟨wf_M0, ⟨fun k h0 hk => ?_, fun p _ h => ?_⟩, fun x hx => ?_, rfl⟩
  · have : M0.length = 1 := rfl
    omega
  · rw [nd_M0]
    split <;> rfl
  · have hx : x = ro00 := by simpa [M0] using hx
    rw [hx]
    exact Nat.le_refl _
theorem Inv.add {B : Nat} {M : List Nd} (h : Inv B M) {x : Ro} (hx : okRow x = true) (ha : x.attrs.length ≤ B) : Inv B (addM M x) := by
  refine ⟨h.wf.add x, h.good.add h.wf hx, fun y hy => ?_, ?_⟩
  · rw [ro_add] at hy
    rcases List.mem_append.1 hy with hy | hy
    · exact h.lim y hy
    · rw [List.mem_singleton.1 hy]
      exact ha
  · have := h.wf.pos
    rw [nd_add, if_neg (by omega)]
    exact h.root
theorem Inv.take {B : Nat} {M : List Nd} (h : Inv B M) (n : Nat) : Inv B (takeOut M n) := ⟨h.wf.take n, h.good.take n, fun y hy => h.lim y (by rw [ro_take] at hy; exact hy), by rw [nd_take]; exact h.root⟩
theorem Inv.set {B : Nat} {M : List Nd} (h : Inv B M) {p n : Nat} (hp : p < M.length) (hn : n < M.length) (h0 : n ≠ 0) (hu : ¬ Up M p n) (hk : p ≠ 0 → (nd M p).ro.kind = 0) (i : Nat) : Inv B (setM M p i n) :=
  ⟨h.wf.set hp hn h0 hu i, h.good.set hp hn hk i, fun y hy => h.lim y (by rw [ro_set] at hy; exact hy), by rw [nd_set hp hn]; exact h.root⟩
theorem Inv.row {B C : Nat} {M : List Nd} (h : Inv B M) {n : Nat} (hn : n < M.length) (h0 : n ≠ 0) {f : Ro → Ro} (hd : (f (nd M n).ro).depth = 0) (hf : okRow (f (nd M n).ro) = true) (hk : (f (nd M n).ro).kind = (nd M n).ro.kind) (hB : B ≤ C) (ha : (f (nd M n).ro).attrs.length ≤ C) : Inv C (rowM M n f) := by
  refine ⟨h.wf.row hn hd, h.good.row_ hn hf hk, fun y hy => ?_, ?_⟩
  · rw [ro_row] at hy
    rcases List.mem_or_eq_of_mem_set hy with hy | rfl
    · exact Nat.le_trans (h.lim y hy) hB
    · exact ha
  · rw [nd_row hn, if_neg (fun e => h0 e.symm)]
    exact h.root
theorem Inv.load {B : Nat} {M : List Nd} (h : Inv B M) {l : List Ro} (hR : right l = true) (ha : ∀ x ∈ l, x.attrs.length ≤ B) : ∀ i, i ≤ l.length → Inv B (loadTo M.length l (parI l) M i)
  | 0, _ => h
  | i + 1, hi => by
    have ih := h.load hR ha i (by omega)
    have hlen := load_len M.length l (parI l) M i
    have hg : (l[i]?).getD ⟨0, 0, ⟨#[]⟩, ⟨#[]⟩, []⟩ = l[i] := by
      rw [List.getElem?_eq_getElem (by omega)]
      rfl
    have hA := ih.add (x := l[i]) (rf_ok l 0 hR _ (List.getElem_mem _)) (ha _ (List.getElem_mem _))
    have hpos := h.wf.pos
    rw [loadTo, hg]
    by_cases hp : parI l i < 0
    · rw [if_pos hp]
      exact hA
    · rw [if_neg hp]
      obtain ⟨k, hk⟩ : ∃ k : Nat, parI l i = k := ⟨(parI l i).toNat, by omega⟩
      have hki := (par_lt l (j := i) (by omega)).1
      rw [hk] at hki ⊢
      rw [Int.toNat_natCast]
      obtain ⟨y, hy, hy0⟩ := parent_kind hR (by omega) hk
      refine hA.set ?_ ?_ ?_ ?_ (fun _ => ?_) _
      · rw [len_add, hlen]
        omega
      · rw [len_add, hlen]
        omega
      · omega
      · intro hu
        have := up_alone hA.wf (by rw [nd_add, if_pos hlen.symm]) hu
        omega
      · have h1 : ((addM (loadTo M.length l (parI l) M i) l[i]).map Nd.ro)[M.length + k]? = some { y with depth := 0 } := by
          rw [ro_add, load_ro l (parI l) M M.length i (by omega), List.append_assoc, List.getElem?_append_right (by rw [List.length_map]; omega), List.length_map, Nat.add_sub_cancel_left, List.getElem?_append_left (by rw [List.length_map, List.length_take]; omega), List.getElem?_map, List.getElem?_take, if_pos (by omega), hy]
          rfl
        rw [nd_ro rfl h1]
        exact hy0
end Go.Proofs.Ytmlchbohijolaaa.Ar

namespace Go.Proofs.Ytmlchbohijolaaa.Ar
set_option linter.unusedSimpArgs false
set_option linter.unusedVariables false
open Go.RowKit Ba
open Ro (At Ro Cw ros deeper okRow right rightFrom parent dep hasRow twice Few check)
open Na (mayB)
theorem twice_iff : ∀ (l : List At), twice l = false ↔ l.Pairwise (fun a b => b.name ≠ a.name)
  | [] => ⟨fun _ => List.Pairwise.nil, fun _ => rfl⟩
  | a :: r => by
    rw [twice, Bool.or_eq_false_iff, List.pairwise_cons, twice_iff r, List.any_eq_false]
    constructor
    · rintro ⟨h1, h2⟩
      exact ⟨fun b hb e => h1 b hb (decide_eq_true e), h2⟩
    · rintro ⟨h1, h2⟩
      exact ⟨fun b hb e => h1 b hb (of_decide_eq_true e), h2⟩
theorem atF_name (nm v : ByteArray) (a : At) : (atF nm v a).name = a.name := by
  unfold atF
  split <;> rfl
theorem put_iff {nm : ByteArray} {l : List At} : putB l nm = true ↔ ∃ a ∈ l, a.name = nm := by
  unfold putB
  rw [List.any_eq_true]
  constructor
  · rintro ⟨a, h1, h2⟩
    exact ⟨a, h1, of_decide_eq_true h2⟩
  · rintro ⟨a, h1, h2⟩
    exact ⟨a, h1, decide_eq_true h2⟩
theorem twice_set {l : List At} (nm v : ByteArray) (h : twice l = false) : twice (atSet l nm v) = false := by
  rw [twice_iff] at h
  have hm : (l.map (atF nm v)).Pairwise (fun a b => b.name ≠ a.name) := by
    rw [List.pairwise_map]
    exact h.imp fun {a b} h => by rw [atF_name, atF_name]; exact h
  unfold atSet
  by_cases hp : putB l nm = true
  · rw [if_pos hp, twice_iff]
    exact hm
  · rw [if_neg hp, twice_iff, List.pairwise_append]
    refine ⟨hm, List.pairwise_singleton _ _, fun a ha b hb e => ?_⟩
    rw [List.mem_singleton] at hb
    subst hb
    obtain ⟨a', h1, rfl⟩ := List.mem_map.1 ha
    rw [atF_name] at e
    exact hp (put_iff.2 ⟨a', h1, e.symm⟩)
theorem twice_drop {l : List At} (nm : ByteArray) (h : twice l = false) : twice (dropL l nm) = false := by
  rw [twice_iff] at h ⊢
  exact h.sublist List.filter_sublist
theorem ok_el {x : Ro} (hk : x.kind = 0) : okRow x = (!x.name.toList.isEmpty && x.data.toList.isEmpty && !twice x.attrs) := by
  unfold okRow
  rw [if_pos (by rw [hk]; rfl)]
theorem ok_other {x : Ro} (hk : x.kind ≠ 0) : okRow x = ((x.kind == 1 || x.kind == 2) && x.name.toList.isEmpty && (x.attrs.length : Int) == 0) := by
  unfold okRow
  rw [if_neg (by simpa using hk)]
theorem set_len (l : List At) (nm v : ByteArray) : (atSet l nm v).length ≤ l.length + 1 := by
  unfold atSet
  split
  · rw [List.length_map]
    omega
  · rw [List.length_append, List.length_map, List.length_singleton]
    omega

/-- A call of a script, as a value. -/
structure Op11 where
  kind : Int
  node : Int
  other : Int
  at_ : Int
  what : Int
  name : ByteArray
  value : ByteArray
  x : List Cw
  A : Option Addr
  c : Nat
def cut12 (l : List Ro) : List Ro := (l.take 12).map fun r => { r with attrs := r.attrs.take 4 }
theorem cut12_attrs (l : List Ro) : ∀ x ∈ cut12 l, x.attrs.length ≤ 4 := fun x hx => by
  obtain ⟨y, _, rfl⟩ := List.mem_map.1 hx
  rw [List.length_take]
  omega
noncomputable def loadM (M : List Nd) (l : List Ro) : List Nd := if loadE M l = 0 then loadTo M.length l (parI l) M l.length else M
def remM (M : List Nd) (n : Int) : List Nd := if 1 ≤ n ∧ n < M.length then takeOut M n.toNat else M
noncomputable def opM (M : List Nd) (o : Op11) : List Nd :=
  if o.kind = 0 then makeM M o.what o.name o.value
  else if o.kind = 1 then loadM M (cut12 (ros o.x))
  else if o.kind = 2 then insM M o.node o.at_ o.other
  else if o.kind = 3 then remM M o.node
  else if o.kind = 4 then cloneM M o.node
  else if o.kind = 5 then attrM11 M o.node o.name o.value
  else if o.kind = 6 then dropM11 M o.node o.name
  else if o.kind = 7 then dataM M o.node o.value
  else M
theorem Inv.make {B : Nat} {M : List Nd} (h : Inv B M) (k : Int) (n d : ByteArray) : Inv B (makeM M k n d) := by
  unfold makeM
  split
  · rename_i hb
    rw [Bool.and_eq_true] at hb
    have hb := hb.1
    refine h.add ?_ (Nat.zero_le _)
    unfold makeB at hb
    rw [Bool.or_eq_true] at hb
    rcases hb with hb | hb
    · rw [Bool.and_eq_true, Bool.and_eq_true] at hb
      obtain ⟨⟨h1, h2⟩, h3⟩ := hb
      have h1 : k = 0 := by simpa using h1
      rw [ok_el (by exact h1)]
      show (!n.toList.isEmpty && d.toList.isEmpty && !twice []) = true
      rw [h3]
      have hne : n.toList.isEmpty = false := by
        rw [← Bool.not_eq_true]
        intro he
        have hz : n.size = 0 := by
          have : n.toList = [] := by simpa using he
          exact Na.nil_size this
        have := Na.may_nil (s := n) false hz
        rw [this] at h2
        cases h2
      rw [hne]
      rfl
    · rw [Bool.and_eq_true, Bool.or_eq_true] at hb
      obtain ⟨h1, h2⟩ := hb
      have hk : k ≠ 0 := by
        intro e
        subst e
        revert h1
        decide
      rw [ok_other (by exact hk)]
      show ((k == 1 || k == 2) && n.toList.isEmpty && ((([] : List At).length : Int) == 0)) = true
      rw [h2, Bool.and_true]
      rcases h1 with h1 | h1
      · rw [h1]
        rfl
      · rw [h1, Bool.or_true]
        rfl
  · exact h
theorem Inv.loadM {B : Nat} {M : List Nd} (h : Inv B M) {l : List Ro} (ha : ∀ x ∈ l, x.attrs.length ≤ B) : Inv B (loadM M l) := by
  unfold Ar.loadM
  split
  · rename_i h0
    refine h.load ?_ ha l.length (Nat.le_refl _)
    unfold loadE at h0
    by_cases hc : check l = 0
    · exact check_right hc
    · rw [if_neg hc] at h0
      exact absurd h0 hc
  · exact h
theorem Inv.ins {B : Nat} {M : List Nd} (h : Inv B M) (P A n : Int) : Inv B (insM M P A n) := by
  unfold insM
  split
  · rename_i h0
    by_cases c1 : P < 0 ∨ (M.length : Int) ≤ P ∨ n < 1 ∨ (M.length : Int) ≤ n
    · rw [(ins_110 c1).1] at h0
      cases h0
    · by_cases c2 : (0 < P ∧ (nd M P.toNat).ro.kind ≠ 0) ∨ Win M P n
      · rw [(ins_111 c1 c2).1] at h0
        cases h0
      · refine h.set (by omega) (by omega) (by omega) (fun hu => c2 (.inr ⟨by omega, by omega, hu⟩)) (fun hp => ?_) _
        apply Decidable.byContradiction
        intro hk
        exact c2 (.inl ⟨by omega, hk⟩)
  · exact h
theorem Inv.rem {B : Nat} {M : List Nd} (h : Inv B M) (n : Int) : Inv B (remM M n) := by
  unfold remM
  split
  · exact h.take _
  · exact h
theorem tree_lim {B : Nat} {M : List Nd} (h : Inv B M) (n : Int) : ∀ x ∈ rowsM M n, x.attrs.length ≤ B := by
  have hn : ∀ m, (nd M m).ro.attrs.length ≤ B := fun m => by
    by_cases hm : m < M.length
    · rw [nd_at hm]
      exact h.lim _ (List.mem_map.2 ⟨_, List.getElem_mem hm, rfl⟩)
    · rw [nd_out hm]
      exact Nat.zero_le _
  intro x hx
  unfold rowsM at hx
  split at hx
  · split at hx
    · obtain ⟨k, _, hx⟩ := List.mem_flatMap.1 hx
      obtain ⟨m, hm⟩ := tree_attrs _ _ _ x hx
      rw [hm]
      exact hn m
    · obtain ⟨m, hm⟩ := tree_attrs _ _ _ x hx
      rw [hm]
      exact hn m
  · cases hx
theorem Inv.clone {B : Nat} {M : List Nd} (h : Inv B M) (n : Int) : Inv B (cloneM M n) := by
  unfold cloneM
  split
  · exact h
  · exact h.load (good_right h.wf h.good n) (tree_lim h n) _ (Nat.le_refl _)
theorem Inv.attr {B : Nat} {M : List Nd} (h : Inv B M) (n : Int) (nm v : ByteArray) : Inv (B + 1) (attrM11 M n nm v) := by
  unfold attrM11
  split
  · rename_i hb
    rw [Bool.and_eq_true] at hb
    obtain ⟨k, rfl, hk, hk0, hkd⟩ := el_nat hb.1
    rw [Int.toNat_natCast]
    have hok := h.good.row k hk0 hk
    rw [ok_el hkd, Bool.and_eq_true] at hok
    have hlim : (nd M k).ro.attrs.length ≤ B := by
      rw [nd_at hk]
      exact h.lim _ (List.mem_map.2 ⟨_, List.getElem_mem hk, rfl⟩)
    refine h.row hk hk0 (h.wf.flat k) ?_ rfl (Nat.le_succ _) ?_
    · rw [ok_el (by exact hkd), Bool.and_eq_true]
      refine ⟨hok.1, ?_⟩
      have := twice_set nm v (l := (nd M k).ro.attrs) (by simpa using hok.2)
      show (!twice (atSet (nd M k).ro.attrs nm v)) = true
      rw [this]
      rfl
    · have := set_len (nd M k).ro.attrs nm v
      show (atSet (nd M k).ro.attrs nm v).length ≤ B + 1
      omega
  · exact h.more (Nat.le_succ _)
theorem Inv.drop {B : Nat} {M : List Nd} (h : Inv B M) (n : Int) (nm : ByteArray) : Inv B (dropM11 M n nm) := by
  unfold dropM11
  split
  · rename_i hb
    rw [Bool.and_eq_true] at hb
    obtain ⟨k, rfl, hk, hk0, hkd⟩ := el_nat hb.1
    rw [Int.toNat_natCast]
    have hok := h.good.row k hk0 hk
    rw [ok_el hkd, Bool.and_eq_true] at hok
    have hlim : (nd M k).ro.attrs.length ≤ B := by
      rw [nd_at hk]
      exact h.lim _ (List.mem_map.2 ⟨_, List.getElem_mem hk, rfl⟩)
    refine h.row hk hk0 (h.wf.flat k) ?_ rfl (Nat.le_refl _) ?_
    · rw [ok_el (by exact hkd), Bool.and_eq_true]
      refine ⟨hok.1, ?_⟩
      have := twice_drop nm (l := (nd M k).ro.attrs) (by simpa using hok.2)
      show (!twice (dropL (nd M k).ro.attrs nm)) = true
      rw [this]
      rfl
    · show (dropL (nd M k).ro.attrs nm).length ≤ B
      exact Nat.le_trans (List.length_filter_le _ _) hlim
  · exact h
theorem Inv.data {B : Nat} {M : List Nd} (h : Inv B M) (n : Int) (d : ByteArray) : Inv B (dataM M n d) := by
  unfold dataM
  split
  · exact h
  · rename_i hc
    have hn1 : n.toNat < M.length := by omega
    have hn0 : n.toNat ≠ 0 := by omega
    have hkd : (nd M n.toNat).ro.kind ≠ 0 := fun e => hc (.inr (.inr e))
    have hok := h.good.row _ hn0 hn1
    rw [ok_other hkd] at hok
    refine h.row hn1 hn0 (h.wf.flat _) ?_ rfl (Nat.le_refl _) ?_
    · rw [ok_other (by exact hkd)]
      exact hok
    · show (nd M n.toNat).ro.attrs.length ≤ B
      rw [nd_at hn1]
      exact h.lim _ (List.mem_map.2 ⟨_, List.getElem_mem hn1, rfl⟩)
theorem Inv.op {B : Nat} {M : List Nd} (h : Inv B M) (hB : 4 ≤ B) (o : Op11) : Inv (B + 1) (opM M o) := by
  unfold opM
  split
  · exact (h.make _ _ _).more (Nat.le_succ _)
  split
  · exact (h.loadM fun x hx => Nat.le_trans (cut12_attrs _ x hx) hB).more (Nat.le_succ _)
  split
  · exact (h.ins _ _ _).more (Nat.le_succ _)
  split
  · exact (h.rem _).more (Nat.le_succ _)
  split
  · exact (h.clone _).more (Nat.le_succ _)
  split
  · exact h.attr _ _ _
  split
  · exact (h.drop _ _).more (Nat.le_succ _)
  split
  · exact (h.data _ _).more (Nat.le_succ _)
  · exact h.more (Nat.le_succ _)
theorem rows_short {M : List Nd} (W : Wf M) (n : Int) : (rowsM M n).length ≤ M.length := by
  unfold rowsM
  split
  · rename_i h
    split
    · have h2 := tr_short W W.pos (-1)
      rw [tr_eq W W.pos, List.length_cons] at h2
      have h3 : ((nd M 0).kids.flatMap fun k => tr M k ((-1 : Int) + 1)) = (nd M 0).kids.flatMap fun k => tr M k 0 := rfl
      rw [h3] at h2
      omega
    · exact tr_short W (by omega) 0
  · exact Nat.zero_le _
end Go.Proofs.Ytmlchbohijolaaa.Ar

namespace Go.Proofs.Ytmlchbohijolaaa.Ar
set_option maxRecDepth 100000
set_option linter.unusedSimpArgs false
set_option linter.unusedVariables false
open Go.RowKit Ba
open Ro (At Ro Cw ros Rr Ow Nw Rn Fr Att Ap Sh Ra Rv Held cells acells app_row below_new infoI info_row size_row len_cells rowV rowO Few ros_append dec_cons)
end Go.Proofs.Ytmlchbohijolaaa.Ar

namespace Go.Proofs.Ytmlchbohijolaaa.Ar
set_option maxRecDepth 100000
set_option linter.unusedSimpArgs false
set_option linter.unusedVariables false
open Go.RowKit Ba
open Ro (At Ro Cw ros Rr Ow Nw Fr Att Ap Sh cells acells below_new infoI info_row len_cells)
/-- A slice of one's own; if it is cut at its end it is full. -/
def Of (w : World) (N : Nat) (t : TypeId) (s : Nat) (A : Option Addr) (n c : Nat) (xs : List Value) : Prop :=
  w.ownsRow N t s (.slice A n c) n xs ∨ (c = n ∧ xs.length = n * s ∧ n ≤ maxLen ∧ ∃ g cur, A = some ⟨g, 0, none⟩ ∧ N ≤ g ∧ w.heap[g]? = some (.cells cur t (0, 0)) ∧ n * s ≤ cur.size ∧ cur.toList.take (n * s) = xs)
section
variable {w w' : World} {N s n c : Nat} {t : TypeId} {A : Option Addr} {xs : List Value}
theorem Of.len (h : Of w N t s A n c xs) : xs.length = n * s := by
  rcases h with h | ⟨_, h, _⟩
  · exact h.1
  · exact h
theorem Of.obj (h : Of w N t s A n c xs) : (A = none ∧ n = 0 ∧ c = 0) ∨ ∃ g cur, A = some ⟨g, 0, none⟩ ∧ N ≤ g ∧ g < w.heap.size ∧ w.heap[g]? = some (.cells cur t (0, 0)) ∧ n * s ≤ cur.size ∧ cur.toList.take (n * s) = xs ∧ n ≤ c ∧ c ≤ maxLen := by
  rcases h with h | ⟨rfl, _, hm, g, cur, hA, hN, hh, hs, ht⟩
  · rcases h.2 with ⟨hv, hn⟩ | ⟨g, cap, cur, hv, hN, hh, hn, hm, hs, ht⟩
    · injection hv with h1 h2 h3
      exact .inl ⟨h1, h2, h3⟩
    · injection hv with h1 h2 h3
      subst h3
      refine .inr ⟨g, cur, h1, hN, (Array.getElem?_eq_some_iff.1 hh).1, hh, ?_, ht, hn, hm⟩
      rw [hs]
      exact Nat.mul_le_mul_right _ hn
  · exact .inr ⟨g, cur, hA, hN, (Array.getElem?_eq_some_iff.1 hh).1, hh, hs, ht, Nat.le_refl _, hm⟩
theorem Of.cap (h : Of w N t s A n c xs) : n ≤ c ∧ c ≤ maxLen := by
  rcases h.obj with ⟨_, rfl, rfl⟩ | ⟨_, _, _, _, _, _, _, _, h⟩
  · exact ⟨Nat.le_refl _, Nat.zero_le _⟩
  · exact h
theorem Of.block (h : Of w N t s A n c xs) (hb : ∀ g, A = some ⟨g, 0, none⟩ → w'.heap[g]? = w.heap[g]?) : Of w' N t s A n c xs := by
  rcases h with h | ⟨rfl, hl, hm, g, cur, hA, hN, hh, hs, ht⟩
  · refine .inl (owns_block h fun g hg => ?_)
    have hof : Of w N t s A n c xs := Or.inl h
    rcases hof.obj with ⟨hA, _⟩ | ⟨g', cur, hA, _⟩
    · rw [hA] at hg
      cases hg
    · rw [hA] at hg
      obtain rfl : g' = g := Option.some.inj hg
      exact hb _ hA
  · exact .inr ⟨rfl, hl, hm, g, cur, hA, hN, (hb g hA).trans hh, hs, ht⟩
theorem Of.below {K : Nat} (h : Of w N t s A n c xs) (hb : Below K w w') (hK : w.heap.size ≤ K := by exact Nat.le_refl _) : Of w' N t s A n c xs := h.block fun g hA => by
  rcases h.obj with ⟨hA', _⟩ | ⟨g', cur, hA', _, hlt, _⟩
  · rw [hA'] at hA
    cases hA
  · rw [hA'] at hA
    cases hA
    exact hb.block g (by omega)
theorem Of.mono {N' : Nat} (h : Of w N t s A n c xs) (hN : N' ≤ N) : Of w N' t s A n c xs := by
  rcases h with h | ⟨rfl, hl, hm, g, cur, hA, hN', hh, hs, ht⟩
  · exact .inl (World.ownsRow.mono h hN)
  · exact .inr ⟨rfl, hl, hm, g, cur, hA, by omega, hh, hs, ht⟩
/-- Its cells. -/
theorem Of.cells (h : Of w N t s A n c xs) {g : Nat} (hA : A = some ⟨g, 0, none⟩) (j : Nat) (u : Value) (hu : xs[j]? = some u) : w.cell? ⟨g, j, none⟩ = some u ∧ w.frozen? ⟨g, j, none⟩ = false := by
  rcases h.obj with ⟨hA', _⟩ | ⟨g', cur, hA', _, _, hh, _, ht, _⟩
  · rw [hA'] at hA
    cases hA
  · rw [hA'] at hA
    cases hA
    have hj : j < n * s := by
      have := (List.getElem?_eq_some_iff.1 hu).1
      rw [h.len] at this
      exact this
    rw [← ht, List.getElem?_take, if_pos hj] at hu
    constructor
    · unfold World.cell?
      rw [hh]
      simpa using hu
    · unfold World.frozen?
      rw [hh]
      rfl
/-- Cut at its end: what is ahead of a place. -/
theorem Of.cut (h : Of w N t s A n c xs) {k : Nat} (hk : k ≤ n) : Of w N t s A k k (xs.take (k * s)) := by
  have hl := h.len
  have hks : k * s ≤ n * s := Nat.mul_le_mul_right _ hk
  rcases h.obj with ⟨hA, rfl, rfl⟩ | ⟨g, cur, hA, hN, _, hh, hs, ht, hn, hm⟩
  · obtain rfl : k = 0 := by omega
    refine .inl ⟨by simp, .inl ⟨by rw [hA], rfl⟩⟩
  · refine .inr ⟨rfl, by rw [List.length_take]; omega, by omega, g, cur, hA, hN, hh, by omega, ?_⟩
    rw [← ht, List.take_take, Nat.min_eq_left hks]
/-- One of its cells changed. -/
theorem Of.store (h : Of w N t s A n c xs) {g : Nat} (hA : A = some ⟨g, 0, none⟩) (j : Nat) (u : Value) : Of (w.setCell ⟨g, j, none⟩ u) N t s A n c (xs.set j u) := by
  rcases h with h | ⟨rfl, hl, hm, g', cur, hA', hN, hh, hs, ht⟩
  · subst hA
    exact .inl (World.ownsRow.stored h j u).1
  · rw [hA'] at hA
    cases hA
    refine .inr ⟨rfl, by rw [List.length_set]; exact hl, hm, g, cur.setIfInBounds j u, hA', hN, ?_, by simpa using hs, ?_⟩
    · simp [World.setCell, Array.getElem?_modify, hh]
    · rw [Array.toList_setIfInBounds, List.take_set, ht]
end
end Go.Proofs.Ytmlchbohijolaaa.Ar

namespace Go.Proofs.Ytmlchbohijolaaa.Ar
set_option linter.unusedSimpArgs false
set_option linter.unusedVariables false
open Go.RowKit Ba
open Ro (At Ro Cw ros Rr Ow Nw Fr Att Ap Sh Ra cells acells below_new infoI info_row len_cells)
/-- An entry as it lies: its row (with whatever depth), its parent, its kids. -/
structure Ew where
  x : Cw
  up : Int
  K : Option Addr
  kc : Nat
  kids : List Nat
def nv (k : Nat) : Value := .int .i64 (k : Int)
def ecells (e : Ew) : List Value := [.int .i64 e.x.ro.depth, .int .i64 e.x.ro.kind, .string e.x.ro.name, .string e.x.ro.data, .slice e.x.A e.x.ro.attrs.length e.x.c, .int .i64 e.up, .slice e.K e.kids.length e.kc]
theorem len_ecells (e : Ew) : (ecells e).length = 7 := rfl
def nodeOf (e : Ew) : Nd := ⟨{ e.x.ro with depth := 0 }, e.up, e.kids⟩
def OA (w : World) (N : Nat) (x : Cw) : Prop := Of w N 63 2 x.A x.ro.attrs.length x.c (x.ro.attrs.flatMap acells) ∧ Sh x.ro.attrs
def OK (w : World) (N : Nat) (A : Option Addr) (c : Nat) (l : List Nat) : Prop := Of w N 3 1 A l.length c (l.map nv)
def blkOf (A : Option Addr) : Option Nat := A.map Addr.block
theorem Fr.oa {N : Nat} {w : World} {x : Cw} (h : Fr N w x) : OA w N x := ⟨.inl h.1, h.2⟩
/-- No block is that of two of them. -/
def Apart (f : Ew → Option Nat) (l : List Ew) : Prop := l.Pairwise fun a b => ∀ g, f a = some g → f b ≠ some g
def bA (e : Ew) : Option Nat := blkOf e.x.A
def bK (e : Ew) : Option Nat := blkOf e.K

/-- The program's document: all of its blocks are in F, and the call's own from N on. -/
structure PD (w : World) (N : Nat) (F : Nat → Prop) (p : Nat) (M : List Nd) (gE cE : Nat) (lE : List Ew) : Prop where
  box : w.heap[p]? = some (.cells #[.slice (some ⟨gE, 0, none⟩) M.length cE] 74)
  ents : w.ownsRow N 71 7 (.slice (some ⟨gE, 0, none⟩) M.length cE) M.length (lE.flatMap ecells)
  attrs : ∀ e ∈ lE, OA w N e.x ∧ ∀ g, bA e = some g → F g
  kids : ∀ e ∈ lE, OK w N e.K e.kc e.kids ∧ ∀ g, bK e = some g → F g
  apA : Apart bA lE
  apK : Apart bK lE
  same : lE.map nodeOf = M
  low : N ≤ p
  fp : F p
  fe : F gE
  bd : ∀ b, F b → b < w.heap.size
def Doc12 (w : World) (N : Nat) (F : Nat → Prop) (p : Nat) (M : List Nd) : Prop := ∃ gE cE lE, PD w N F p M gE cE lE

theorem ext_nd {M M' : List Nd} (hl : M.length = M'.length) (h : ∀ n, n < M.length → nd M n = nd M' n) : M = M' := by
  apply List.ext_getElem hl
  intro n h1 h2
  have := h n h1
  rwa [nd_at h1, nd_at h2] at this
theorem nd_setL {M : List Nd} {k : Nat} (hk : k < M.length) (y : Nd) (n : Nat) : nd (M.set k y) n = if n = k then y else nd M n := by
  unfold nd
  rw [List.getElem?_set]
  by_cases h : k = n
  · subst h
    rw [if_pos rfl, if_pos hk, if_pos rfl]
    rfl
  · rw [if_neg h, if_neg (fun e => h e.symm)]

section
variable {w w' : World} {N : Nat} {F : Nat → Prop} {p gE cE : Nat} {M : List Nd} {lE : List Ew}
theorem PD.len (h : PD w N F p M gE cE lE) : lE.length = M.length := by rw [← h.same, List.length_map]
theorem PD.p_lt (h : PD w N F p M gE cE lE) : p < w.heap.size := (Array.getElem?_eq_some_iff.1 h.box).1
theorem PD.hN (h : PD w N F p M gE cE lE) : N ≤ w.heap.size := Nat.le_of_lt (Nat.lt_of_le_of_lt h.low h.p_lt)
theorem PD.x (h : PD w N F p M gE cE lE) : w.cell? ⟨p, 0, none⟩ = some (.slice (some ⟨gE, 0, none⟩) M.length cE) := cell_of_row w p 0 _ _ _ h.box
theorem PD.obj (h : PD w N F p M gE cE lE) : N ≤ gE ∧ gE < w.heap.size ∧ M.length ≤ cE ∧ cE ≤ maxLen ∧ ∃ c f, w.heap[gE]? = some (.cells c 71 f) := by
  rcases h.ents.2 with ⟨hv, _⟩ | ⟨g, cap, cur, hv, hg, hh, hn, hm, _⟩
  · cases hv
  · injection hv with h1 h2 h3
    injection h1 with h1
    injection h1 with h1
    subst h1 h3
    exact ⟨hg, (Array.getElem?_eq_some_iff.1 hh).1, hn, hm, _, _, hh⟩
theorem PD.at_ (h : PD w N F p M gE cE lE) {k : Nat} (hk : k < M.length) : ∃ e, lE[k]? = some e ∧ e ∈ lE ∧ nodeOf e = nd M k ∧ ∀ j u, (ecells e)[j]? = some u → w.cell? ⟨gE, k * 7 + j, none⟩ = some u := by
  have hl : k < lE.length := by rw [h.len]; exact hk
  refine ⟨lE[k], List.getElem?_eq_getElem hl, List.getElem_mem hl, ?_, fun j u hu => ?_⟩
  · have h1 : (lE.map nodeOf)[k]? = M[k]? := by rw [h.same]
    rw [List.getElem?_map, List.getElem?_eq_getElem hl, List.getElem?_eq_getElem hk] at h1
    rw [nd_at hk]
    exact Option.some.inj h1
  · have hj : j < 7 := (List.getElem?_eq_some_iff.1 hu).1
    have := World.ownsRow.cells h.ents (g := gE) rfl (k * 7 + j) u (by rw [Ro.flat_at ecells 7 len_ecells _ _ _ hl hj]; exact hu)
    rw [WideShapes.add_plain, Nat.zero_add] at this
    exact this
theorem PD.frz (h : PD w N F p M gE cE lE) (j : Nat) : w.frozen? ⟨gE, j, none⟩ = false := World.ownsRow.frozenAt h.ents j
theorem oa_obj {x : Cw} (h : OA w N x) {g : Nat} (hg : blkOf x.A = some g) : x.A = some ⟨g, 0, none⟩ ∧ N ≤ g ∧ g < w.heap.size ∧ ∃ c f, w.heap[g]? = some (.cells c 63 f) := by
  rcases h.1.obj with ⟨hA, _⟩ | ⟨g', cur, hA, hN, hl, hh, _⟩
  · rw [hA] at hg
    cases hg
  · rw [hA] at hg
    obtain rfl : g' = g := Option.some.inj hg
    exact ⟨hA, hN, hl, _, _, hh⟩
theorem ok_obj {A : Option Addr} {c : Nat} {l : List Nat} (h : OK w N A c l) {g : Nat} (hg : blkOf A = some g) : A = some ⟨g, 0, none⟩ ∧ N ≤ g ∧ g < w.heap.size ∧ ∃ c f, w.heap[g]? = some (.cells c 3 f) := by
  rcases h.obj with ⟨hA, _⟩ | ⟨g', cur, hA, hN, hl, hh, _⟩
  · rw [hA] at hg
    cases hg
  · rw [hA] at hg
    obtain rfl : g' = g := Option.some.inj hg
    exact ⟨hA, hN, hl, _, _, hh⟩
theorem OA.block {x : Cw} (h : OA w N x) (hb : ∀ g, blkOf x.A = some g → w'.heap[g]? = w.heap[g]?) : OA w' N x := ⟨h.1.block fun g hA => hb g (by rw [hA]; rfl), h.2⟩
theorem OK.block {A : Option Addr} {c : Nat} {l : List Nat} (h : OK w N A c l) (hb : ∀ g, blkOf A = some g → w'.heap[g]? = w.heap[g]?) : OK w' N A c l := Of.block h fun g hA => hb g (by rw [hA]; rfl)
theorem PD.touch {G : Nat → Prop} (h : PD w N F p M gE cE lE) (t : Touch G w w') (hd : ∀ b, F b → ¬ G b) : PD w' N F p M gE cE lE := by
  have hk : ∀ b, F b → b < w.heap.size → w'.heap[b]? = w.heap[b]? := fun b hf hb => t.block b hb (hd b hf)
  refine ⟨(hk p h.fp h.p_lt).trans h.box, owns_block h.ents fun g hg => ?_, fun e he => ⟨(h.attrs e he).1.block fun g hg => hk g ((h.attrs e he).2 g hg) (oa_obj (h.attrs e he).1 hg).2.2.1, (h.attrs e he).2⟩, fun e he => ⟨(h.kids e he).1.block fun g hg => hk g ((h.kids e he).2 g hg) (ok_obj (h.kids e he).1 hg).2.2.1, (h.kids e he).2⟩, h.apA, h.apK, h.same, h.low, h.fp, h.fe, fun b hb => Nat.lt_of_lt_of_le (h.bd b hb) t.size⟩
  obtain rfl : gE = g := Option.some.inj hg
  exact hk _ h.fe h.obj.2.1
theorem PD.below (h : PD w N F p M gE cE lE) (hb : Below w.heap.size w w') : PD w' N F p M gE cE lE := h.touch (G := fun _ => False) (Touch.of_below hb) fun _ _ h => h
theorem Doc12.below (h : Doc12 w N F p M) (hb : Below w.heap.size w w') : Doc12 w' N F p M := by
  obtain ⟨gE, cE, lE, h⟩ := h
  exact ⟨gE, cE, lE, h.below hb⟩
theorem Doc12.touch {G : Nat → Prop} (h : Doc12 w N F p M) (t : Touch G w w') (hd : ∀ b, F b → ¬ G b) : Doc12 w' N F p M := by
  obtain ⟨gE, cE, lE, h⟩ := h
  exact ⟨gE, cE, lE, h.touch t hd⟩
theorem apart_set {f : Ew → Option Nat} {F : Nat → Prop} {L : Nat} (hF : ∀ e ∈ lE, ∀ g, f e = some g → g < L) (h : Apart f lE) {k : Nat} {e e' : Ew} (he : lE[k]? = some e) (hn : ∀ g, f e' = some g → f e = some g ∨ L ≤ g) : Apart f (lE.set k e') := by
  unfold Apart at h ⊢
  rw [List.pairwise_iff_getElem] at h ⊢
  intro i j hi hj hij
  rw [List.length_set] at hi hj
  have hkl := (List.getElem?_eq_some_iff.1 he).1
  have hek : lE[k] = e := (List.getElem?_eq_some_iff.1 he).2
  rw [List.getElem_set, List.getElem_set]
  by_cases h1 : k = i
  · subst h1
    rw [if_pos rfl, if_neg (by omega)]
    intro g hg hg2
    rcases hn g hg with hn | hn
    · exact h k j hi hj hij g (by rw [hek]; exact hn) hg2
    · have := hF _ (List.getElem_mem hj) g hg2
      omega
  · by_cases h2 : k = j
    · subst h2
      rw [if_neg h1, if_pos rfl]
      intro g hg hg2
      rcases hn g hg2 with hn | hn
      · exact h i k hi hj hij g hg (by rw [hek]; exact hn)
      · have := hF _ (List.getElem_mem hi) g hg
        omega
    · rw [if_neg h1, if_neg h2]
      exact h i j hi hj hij
theorem apart_at {f : Ew → Option Nat} (h : Apart f lE) {i j : Nat} {a b : Ew} (ha : lE[i]? = some a) (hb : lE[j]? = some b) (hij : i ≠ j) {g : Nat} (hg : f a = some g) : f b ≠ some g := by
  unfold Apart at h
  rw [List.pairwise_iff_getElem] at h
  obtain ⟨hi, rfl⟩ := List.getElem?_eq_some_iff.1 ha
  obtain ⟨hj, rfl⟩ := List.getElem?_eq_some_iff.1 hb
  rcases Nat.lt_or_gt_of_ne hij with h1 | h1
  · exact h i j hi hj h1 g hg
  · exact fun hg2 => h j i hj hi h1 g hg2 hg
/-- One entry changed: in its cells, or in the blocks of its attributes and kids. -/
theorem PD.change (h : PD w N F p M gE cE lE) {k : Nat} {e e' : Ew} (he : lE[k]? = some e) (t : Touch (fun b => b = gE ∨ bA e = some b ∨ bK e = some b) w w')
    (ho : w'.ownsRow N 71 7 (.slice (some ⟨gE, 0, none⟩) M.length cE) M.length ((lE.set k e').flatMap ecells)) (ha : OA w' N e'.x) (hk : OK w' N e'.K e'.kc e'.kids)
    (hA : ∀ g, bA e' = some g → bA e = some g ∨ w.heap.size ≤ g) (hK : ∀ g, bK e' = some g → bK e = some g ∨ w.heap.size ≤ g) :
    PD w' N (Wide w w' F) p (M.set k (nodeOf e')) gE cE (lE.set k e') ∧ Next w w' F (Wide w w' F) := by
  have hem : e ∈ lE := List.mem_of_getElem? he
  obtain ⟨_, hgl, _, _, ce, fe, hoE⟩ := h.obj
  have aA : ∀ b ∈ lE, ∀ g, bA b = some g → g < w.heap.size := fun b hb g hg => (oa_obj (h.attrs b hb).1 hg).2.2.1
  have aK : ∀ b ∈ lE, ∀ g, bK b = some g → g < w.heap.size := fun b hb g hg => (ok_obj (h.kids b hb).1 hg).2.2.1
  have inF : ∀ b, b = gE ∨ bA e = some b ∨ bK e = some b → F b := fun b hb => by
    rcases hb with rfl | hb | hb
    · exact h.fe
    · exact (h.attrs e hem).2 b hb
    · exact (h.kids e hem).2 b hb
  have hpb : w'.heap[p]? = w.heap[p]? := t.block p h.p_lt fun hb => by
    rcases hb with hb | hb | hb
    · rw [← hb] at hoE
      exact type_ne h.box hoE (by decide) rfl
    · obtain ⟨_, _, _, _, _, hh⟩ := oa_obj (h.attrs e hem).1 hb
      exact type_ne h.box hh (by decide) rfl
    · obtain ⟨_, _, _, _, _, hh⟩ := ok_obj (h.kids e hem).1 hb
      exact type_ne h.box hh (by decide) rfl
  have other : ∀ b ∈ lE.set k e', b = e' ∨ ∃ j, j ≠ k ∧ lE[j]? = some b := fun b hb => by
    obtain ⟨j, hj, rfl⟩ := List.getElem_of_mem hb
    rw [List.length_set] at hj
    by_cases hjk : j = k
    · subst hjk
      left
      rw [List.getElem_set, if_pos rfl]
    · right
      refine ⟨j, hjk, ?_⟩
      rw [List.getElem_set, if_neg (fun e => hjk e.symm), List.getElem?_eq_getElem hj]
  refine ⟨⟨?_, ?_, fun b hb => ?_, fun b hb => ?_, ?_, ?_, ?_, h.low, .inl h.fp, .inl h.fe, fun b hb => ?_⟩, ⟨?_, fun b hb => .inl hb, fun b hb => hb⟩⟩
  · rw [List.length_set]
    exact hpb.trans h.box
  · rw [List.length_set]
    exact ho
  · rcases other b hb with rfl | ⟨j, hjk, hj⟩
    · refine ⟨ha, fun g hg => ?_⟩
      rcases hA g hg with h1 | h1
      · exact .inl ((h.attrs e hem).2 g h1)
      · exact .inr ⟨h1, (oa_obj ha hg).2.2.1⟩
    · have hm := List.mem_of_getElem? hj
      refine ⟨(h.attrs b hm).1.block fun g hg => t.block g (aA b hm g hg) fun hb2 => ?_, fun g hg => .inl ((h.attrs b hm).2 g hg)⟩
      obtain ⟨_, _, _, _, _, hh⟩ := oa_obj (h.attrs b hm).1 hg
      rcases hb2 with hb2 | hb2 | hb2
      · rw [← hb2] at hoE
        exact type_ne hh hoE (by decide) rfl
      · exact apart_at h.apA he hj (fun e => hjk e.symm) hb2 hg
      · obtain ⟨_, _, _, _, _, hh2⟩ := ok_obj (h.kids e hem).1 hb2
        exact type_ne hh hh2 (by decide) rfl
  · rcases other b hb with rfl | ⟨j, hjk, hj⟩
    · refine ⟨hk, fun g hg => ?_⟩
      rcases hK g hg with h1 | h1
      · exact .inl ((h.kids e hem).2 g h1)
      · exact .inr ⟨h1, (ok_obj hk hg).2.2.1⟩
    · have hm := List.mem_of_getElem? hj
      refine ⟨(h.kids b hm).1.block fun g hg => t.block g (aK b hm g hg) fun hb2 => ?_, fun g hg => .inl ((h.kids b hm).2 g hg)⟩
      obtain ⟨_, _, _, _, _, hh⟩ := ok_obj (h.kids b hm).1 hg
      rcases hb2 with hb2 | hb2 | hb2
      · rw [← hb2] at hoE
        exact type_ne hh hoE (by decide) rfl
      · obtain ⟨_, _, _, _, _, hh2⟩ := oa_obj (h.attrs e hem).1 hb2
        exact type_ne hh hh2 (by decide) rfl
      · exact apart_at h.apK he hj (fun e => hjk e.symm) hb2 hg
  · exact apart_set (F := F) aA h.apA he hA
  · exact apart_set (F := F) aK h.apK he hK
  · rw [← h.same, List.map_set]
  · rcases hb with hb | hb
    · exact Nat.lt_of_lt_of_le (h.bd b hb) t.size
    · exact hb.2
  · exact t.mono fun b _ hb => inF b hb
theorem flat_set7 {j : Nat} (hj : j < 7) (u : Value) : ∀ (l : List Ew) (k : Nat) (y : Ew), (∀ h : k < l.length, ecells y = (ecells l[k]).set j u) → k < l.length → (l.flatMap ecells).set (k * 7 + j) u = (l.set k y).flatMap ecells
  | [], k, _, _, h => absurd h (by simp)
  | a :: r, 0, y, hy, h => by
    have hc := hy h
    rw [List.getElem_cons_zero] at hc
    rw [List.flatMap_cons, List.set_cons_zero, List.flatMap_cons, hc, Nat.zero_mul, Nat.zero_add, List.set_append_left _ _ (by rw [len_ecells]; exact hj)]
  | a :: r, k + 1, y, hy, h => by
    have hk : k < r.length := by simpa using h
    rw [List.flatMap_cons, List.set_cons_succ, List.flatMap_cons, List.set_append_right _ _ (by rw [len_ecells]; omega), len_ecells, show (k + 1) * 7 + j - 7 = k * 7 + j from by omega, flat_set7 hj u r k y (fun h' => hy h) hk]
/-- One cell of an entry stored, behind what happened to its own blocks. -/
theorem PD.put (h : PD w N F p M gE cE lE) {k : Nat} {e e' : Ew} (he : lE[k]? = some e) (t : Touch (fun b => bA e = some b ∨ bK e = some b) w w') {j : Nat} (hj : j < 7) (u : Value) (hc : ecells e' = (ecells e).set j u) (ha : OA w' N e'.x) (hk : OK w' N e'.K e'.kc e'.kids)
    (hA : ∀ g, bA e' = some g → bA e = some g ∨ w.heap.size ≤ g) (hK : ∀ g, bK e' = some g → bK e = some g ∨ w.heap.size ≤ g) :
    PD (w'.setCell ⟨gE, k * 7 + j, none⟩ u) N (Wide w (w'.setCell ⟨gE, k * 7 + j, none⟩ u) F) p (M.set k (nodeOf e')) gE cE (lE.set k e') ∧ Next w (w'.setCell ⟨gE, k * 7 + j, none⟩ u) F (Wide w (w'.setCell ⟨gE, k * 7 + j, none⟩ u) F) := by
  have hem : e ∈ lE := List.mem_of_getElem? he
  obtain ⟨hkl, hke⟩ := List.getElem?_eq_some_iff.1 he
  obtain ⟨_, hgl, _, _, ce, fe, hoE⟩ := h.obj
  have hgE : w'.heap[gE]? = w.heap[gE]? := t.block gE hgl fun hb => by
    rcases hb with hb | hb
    · obtain ⟨_, _, _, _, _, hh⟩ := oa_obj (h.attrs e hem).1 hb
      exact type_ne hoE hh (by decide) rfl
    · obtain ⟨_, _, _, _, _, hh⟩ := ok_obj (h.kids e hem).1 hb
      exact type_ne hoE hh (by decide) rfl
  have ho : w'.ownsRow N 71 7 (.slice (some ⟨gE, 0, none⟩) M.length cE) M.length (lE.flatMap ecells) := owns_block h.ents fun g hg => by
    obtain rfl : gE = g := Option.some.inj hg
    exact hgE
  have hoE' := hgE.trans hoE
  have h1 := (World.ownsRow.stored ho (k * 7 + j) u).1
  rw [flat_set7 hj u lE k e' (fun _ => by rw [hke]; exact hc) hkl] at h1
  refine h.change he (w' := w'.setCell ⟨gE, k * 7 + j, none⟩ u) ?_ h1 (ha.block fun g hg => Below.heap_setCell _ _ _ _ fun e2 => ?_) (hk.block fun g hg => Below.heap_setCell _ _ _ _ fun e2 => ?_) hA hK
  · exact (t.mono (G := fun b => b = gE ∨ bA e = some b ∨ bK e = some b) fun b _ hb => .inr hb).trans (Touch.set (F := fun b => b = gE ∨ bA e = some b ∨ bK e = some b) w' ⟨gE, k * 7 + j, none⟩ u (.inl rfl)) fun _ _ h => h
  · obtain ⟨_, _, _, _, _, hh⟩ := oa_obj ha hg
    have e2 : g = gE := e2
    rw [← e2] at hoE'
    exact type_ne hh hoE' (by decide) rfl
  · obtain ⟨_, _, _, _, _, hh⟩ := ok_obj hk hg
    have e2 : g = gE := e2
    rw [← e2] at hoE'
    exact type_ne hh hoE' (by decide) rfl
end
end Go.Proofs.Ytmlchbohijolaaa.Ar
