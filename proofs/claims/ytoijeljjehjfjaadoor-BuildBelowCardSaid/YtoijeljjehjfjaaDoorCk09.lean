/-
  Walks of stage 1: chars.Count, chars.startsReplaced, chars.Sample: each returns what the plain function of CharsSpec says, for every string.
  Walks of stage 1: chars.Decode, chars.Lines, chars.Ready: each returns the string that the plain function of CharsSpec says, where that string and the argument have at most 2^47 bytes.
  Walks of stage 1: chars.Lines, chars.Ready: each returns the string that the plain function of CharsSpec says, where that string and the argument have at most 2^47 bytes.
  Walks of stage 7: In, Parse.
  Tokens of documents that are written out: the same functions by steps that are counted, so that they can be reckoned.
  Stage 7, in plain words: trees of given bytes, reckoned; nothing of the program.
  Stage 3: where the package's table reads as its text lays it, the walks' table is there; the door's own heap is such a world.
  Stage 7: the calls whose answers the document fixes.
  Stage 7: BuildBelow: an element that may stand within others may stand within the last ones of these alone.
  An argument that is a slice of strings, as the row reads it: a list of strings, nil or not.
  Walks of stage 5: bolting/boltingref05.Closes: what an element closes, and what ends the search.
  Walks of stage 5: bolting/boltingref05.Walls: what an element closes, and what ends the search.
  Walks of stage 7: the document's own Found, closed, para, opened, Nested.
-/
import Derived.Test.YtoijeljjehjfjaaDoorRows
import Derived.Test.YtoijeljjehjfjaaDoorCk08
import Derived.WalkKit
import Derived.WalkSpells
import Derived.Lib.OthersKept
import Derived.Lib.Hide
import Derived.Lib.Strings
import Derived.OpenShut
import Derived.WalkLawsBesides
import Derived.Lib.AppendStr
import Derived.WalkSmall
import Derived.Laws.IdiomStrings
import Derived.Test.YtoijeljjehjfjaaDoorCk06
import Derived.Test.YtoijeljjehjfjaaDoorCk02
import Derived.Test.YtoijeljjehjfjaaDoorCk05
import Derived.ProofKit
import Derived.LaidMore
import Derived.Stop.Joined
import Derived.Test.YtoijeljjehjfjaaDoorCk04
import Derived.Test.YtoijeljjehjfjaaDoorCk01
import Derived.SliceStrings
import Derived.Carry
namespace Go.Proofs.YtoijeljjehjfjaaDoor.Ch
set_option linter.unusedSimpArgs false
set_option linter.unusedVariables false
open Go.RowKit
abbrev L (s : ByteArray) : List UInt8 := s.data.toList
theorem size_L (s : ByteArray) : (L s).length = s.size := by rw [Array.length_toList]; rfl
theorem drop_ne (s : ByteArray) (k : Nat) (h : k < s.size) : (L s).drop k ≠ [] := by
  intro e
  have := congrArg List.length e
  rw [List.length_drop, size_L] at this
  simp at this; omega
theorem drop_nil (s : ByteArray) (k : Nat) (h : ¬ k < s.size) : (L s).drop k = [] := List.drop_eq_nil_of_le (by rw [size_L]; omega)

theorem ret_int {k : IntKind} {a b : Int} (h : a = b) : Ending.returned (.int k a) = .returned (.int k b) := by rw [h]
theorem ret_bool {a b : Bool} (h : a = b) : Ending.returned (.bool a) = .returned (.bool b) := by rw [h]
theorem ret_str {a b : ByteArray} (h : a = b) : Ending.returned (.string a) = .returned (.string b) := by rw [h]

theorem below_iter (w : World) (s : ByteArray) (p : Nat) : Below w.heap.size w (w.iter s p) :=
  (Below.refl _ _).alloc (Nat.le_refl _) _

/-- A string of these bytes. -/
def B (l : List UInt8) : ByteArray := ⟨l.toArray⟩
theorem L_B (l : List UInt8) : L (B l) = l := by simp [B]
theorem toList_B (l : List UInt8) : (B l).toList = l := by unfold B; exact ByteArray.toList_mk l
theorem size_B (l : List UInt8) : (B l).size = l.length := by rw [← size_L, L_B]
theorem B_of {s : ByteArray} {l : List UInt8} (h : L s = l) : s = B l := WideShapes.bytes_inj (h.trans (L_B l).symm)

theorem L_extract (s : ByteArray) (a b : Nat) : L (s.extract a b) = ((L s).drop a).take (b - a) := Lib.extract_data s a b
theorem L_end (s : ByteArray) (a : Nat) : L (s.extract a s.size) = (L s).drop a := by
  rw [L_extract, List.take_of_length_le]
  rw [List.length_drop, size_L]
  exact Nat.le_refl _
theorem size_extract (s : ByteArray) (a b : Nat) : (s.extract a b).size ≤ s.size := by
  rw [← size_L, ← size_L, L_extract, List.length_take, List.length_drop]; omega

end Go.Proofs.YtoijeljjehjfjaaDoor.Ch

namespace Go.Proofs.YtoijeljjehjfjaaDoor.Ch
set_option maxRecDepth 100000
set_option linter.unusedSimpArgs false
set_option linter.unusedVariables false
open Go.RowKit
def bc (b : UInt8) : Value := .int .u8 b.toNat
/-- v is a slice of bytes of the call's own that holds l. -/
def Own (N : Nat) (w : World) (v : Value) (l : List UInt8) : Prop := w.ownsRow N 5 1 v l.length (l.map bc)

theorem info_u8 : (Tryd.prog.info? 5).map (fun i => (i.zero, i.size, i.bytes)) = some (some (.int .u8 0), 1, 1) := by kernel_rfl

theorem Own.iterAt {N : Nat} {w : World} {v : Value} {l : List UInt8} (h : Own N w v l) {k : Nat} {s : ByteArray} {pos : Nat} (hk : w.heap[k]? = some (.stringIter s pos)) (pos' : Nat) : Own N (w.iterAt k s pos') v l := by
  refine ⟨h.1, ?_⟩
  rcases h.2 with hn | ⟨g, cap, cur, hv, hb, hg, rest⟩
  · exact .inl hn
  · have hkg : g ≠ k := by
      intro e1
      rw [e1, hk] at hg
      cases hg
    exact .inr ⟨g, cap, cur, hv, hb, (Lib.iterAt_other w k g s pos' hkg).trans hg, rest⟩

theorem Own.iterKept {N : Nat} {w w' : World} {v : Value} {l : List UInt8} (h : Own N w v l) (hg : w.grownBy w' v.ownBlock) {k : Nat} {s : ByteArray} {pos : Nat} (hk : w.heap[k]? = some (.stringIter s pos)) : w'.heap[k]? = some (.stringIter s pos) := by
  have hlt : k < w.heap.size := (Array.getElem?_eq_some_iff.1 hk).1
  rw [hg.block k hlt, hk]
  intro e
  rcases h.2 with ⟨hv, _⟩ | ⟨g, cap, cur, hv, hb, hgg, rest⟩
  · rw [hv] at e; simp [Value.ownBlock] at e
  · rw [hv] at e; simp [Value.ownBlock] at e
    rw [← e, hk] at hgg; cases hgg

theorem Own.below {N : Nat} {w0 w w' : World} {v : Value} {l : List UInt8} (h : Own N w v l) (hg : w.grownBy w' v.ownBlock) (hb : Below N w0 w) (hN : N ≤ w.heap.size) : Below N w0 w' :=
  hb.grown hg hN fun k hk => (h.lt k hk).1

theorem Own.string {N : Nat} {w : World} {v : Value} {l : List UInt8} (h : Own N w v l) : (convert 44 9 v).run Tryd.prog w = .ok (.string (B l)) w := by
  rcases h.2 with ⟨hv, hl⟩ | ⟨g, cap, cur, hv, hb, hgg, rest⟩
  · have : l = [] := List.eq_nil_of_length_eq_zero hl
    subst this hv
    rw [run_convert_bytes_string w _ _ _ none 0 0 Tryd.underlying44 Tryd.underlying5 Tryd.underlying9]
    rfl
  · subst hv
    exact run_convert_bytes_back w _ _ _ ⟨g, 0, none⟩ cap l Tryd.underlying44 Tryd.underlying5 Tryd.underlying9 fun j hj => World.ownsRow.cells h rfl j _ (by simp [bc, hj])

theorem strCells_L (s : ByteArray) : Lib.strCells s = (L s).map bc := rfl

theorem Own.appended {N : Nat} {w : World} {v : Value} {l m : List UInt8} {n : Nat} (h : w.ownsRow N 5 1 v n (l.map bc ++ m.map bc)) (hn : n = l.length + m.length) : Own N w v (l ++ m) := by
  unfold Own
  rw [List.map_append, List.length_append, ← hn]
  exact h

theorem L_def (s : ByteArray) : L s = s.data.toList := rfl
theorem enc_F : L (Utf8.encode 65533) = F :=
  (L_def _).trans ((congrArg (fun z : Int => (Utf8.encode z).data.toList) (show (65533 : Int) = ((0xFFFD : Nat) : Int) from rfl)).trans F_good.enc)
theorem enc_r (r : Nat) (h : r ≠ 0) : L (Utf8.encode r) = encR r := (L_def _).trans (encR_pos h).symm

set_option maxHeartbeats 1000000 in
theorem decode_any (s : ByteArray) (w : World) (hs : s.size ≤ 140737488355328) (hd : (dL (L s)).length ≤ 140737488355328) :
    Calls Tryd.prog 72 #[.string s] w fun e w' => e = .returned (.string (B (dL (L s)))) ∧ Below w.heap.size w w' := by
  obtain ⟨i0, hi, hz0, hz1, hz2⟩ := info_parts info_u8
  go_enter Tryd.func72, Tryd.ntmps72
  go_wp2_with (at_make; refine wpList_make_own _ rfl (.const (.int .i64 0)) (.tmp 7) 44 rfl w.heap.size 5 i0 (.int .u8 0) 1 Tryd.underlying44 hi hz0 hz1 .i64 .i64 _ s.size rfl rfl rfl (by rw [hz2]; omega) (by unfold maxLen; omega) (Nat.le_refl _) ?_; intro w1 hown hgrow)
  have hk0 : (w1.iter s 0).heap[w1.heap.size]? = some (.stringIter s 0) := World.iter_heap w1 s 0
  have hb0 : Below w.heap.size w (w1.iter s 0) := ((Below.refl w.heap.size w).grown hgrow (Nat.le_refl _) (by simp)).alloc hgrow.size _
  have ho0 : Own w.heap.size (w1.iter s 0) (.slice (some ⟨w.heap.size, 0, none⟩) 0 s.size) [] := World.ownsRow.alloc hown _
  have hsz1 := hgrow.size
  clear hown hgrow
  have HK0 := Lib.hid hk0; clear hk0
  go_loopw [3, 5] (fun v _ wr => ∃ (pos : Nat) (acc : List UInt8), wr.heap[w1.heap.size]? = some (.stringIter s pos) ∧ Own w.heap.size wr v acc ∧ acc ++ dL ((L s).drop pos) = dL (L s) ∧ Below w.heap.size w wr) (fun _ _ wr => s.size - wr.iterPos w1.heap.size)
  case atStart => exact ⟨0, [], HK0.out, ho0, by simp, hb0⟩
  case round =>
    clear ho0 hb0 HK0
    obtain ⟨pos, acc, hk, hown, hc, hbel⟩ := hrel
    have hpos : wr.iterPos w1.heap.size = pos := iterPos_of hk
    have HC := Lib.hid hc; clear hc
    have HP := Lib.hid hpos; clear hpos
    by_cases hp : pos < s.size
    · have hnx : ∀ ty, (Instr.next (.pointer (some ⟨w1.heap.size, 0, none⟩)) true ty).run Tryd.prog wr = _ := fun ty => Lib.run_next_any_at wr _ s pos ty hk hp
      have hdp := dec_pos _ (drop_ne s pos hp)
      have hst := dL_step _ (drop_ne s pos hp)
      rw [List.drop_drop] at hst
      rw [← decode_eq] at hst hdp
      have hk' := Lib.iterAt_heap wr w1.heap.size s pos (pos + (Utf8.decode s pos).2) hk
      have hown' := hown.iterAt hk (pos + (Utf8.decode s pos).2)
      have hbel' := Lib.below_iterAt hbel (k := w1.heap.size) hsz1 s (pos + (Utf8.decode s pos).2)
      have hN : w.heap.size ≤ (wr.iterAt w1.heap.size s (pos + (Utf8.decode s pos).2)).heap.size := hbel'.size
      have HS := Lib.hid hst; clear hst
      have HK := Lib.hid hk'; clear hk hk'
      clear hown hbel
      by_cases hr : (Utf8.decode s pos).1 = 0
      · have hrb : (((Utf8.decode s pos).1 : Int) == 0) = true := by rw [hr]; rfl
        have HR := Lib.hid hr; clear hr
        have he : L (Utf8.encode 65533) = F := enc_F
        have hbd : acc.length + (Utf8.encode 65533).size ≤ 140737488355328 := by
          have h1 := congrArg List.length HC.out
          rw [HS.out, HR.out, encR_zero, List.length_append, List.length_append] at h1
          rw [← size_L, he]; omega
        have HE := Lib.hid he; clear he
        go_wp2_with (at_builtin; refine Lib.wpList_append_own_string _ rfl (.tmp 16) (.tmp 18) 44 9 rfl w.heap.size 5 i0 Tryd.underlying44 Tryd.underlying9 hi hz0 hz1 hz2 _ acc.length (acc.map bc) rfl hown' _ rfl (by unfold maxLen; omega) hbd hN ?_; intro v2 w2 hown2 hgrow2 _)
        go_roundw
        case rel =>
          refine ⟨pos + (Utf8.decode s pos).2, acc ++ F, hown'.iterKept hgrow2 HK.out, ?_, ?_, hown'.below hgrow2 hbel' hN⟩
          · rw [strCells_L, HE.out] at hown2
            exact Own.appended hown2 (by rw [← size_L, HE.out])
          · rw [← HC.out, HS.out, List.append_assoc]; rw [HR.out, encR_zero]
        case measure =>
          rw [iterPos_of (hown'.iterKept hgrow2 HK.out), HP.out]
          omega
      · have hrb : (((Utf8.decode s pos).1 : Int) == 0) = false := by simpa using fun h => hr (by omega)
        have he : L (Utf8.encode (Utf8.decode s pos).1) = encR (Utf8.decode s pos).1 := enc_r _ hr
        clear hr
        have hbd : acc.length + (Utf8.encode (Utf8.decode s pos).1).size ≤ 140737488355328 := by
          have h1 := congrArg List.length HC.out
          rw [HS.out, List.length_append, List.length_append] at h1
          rw [← size_L, he]; omega
        have HE := Lib.hid he; clear he
        go_wp2_with (at_builtin; refine Lib.wpList_append_own_string _ rfl (.tmp 16) (.tmp 18) 44 9 rfl w.heap.size 5 i0 Tryd.underlying44 Tryd.underlying9 hi hz0 hz1 hz2 _ acc.length (acc.map bc) rfl hown' _ rfl (by unfold maxLen; omega) hbd hN ?_; intro v2 w2 hown2 hgrow2 _)
        go_roundw
        case rel =>
          refine ⟨pos + (Utf8.decode s pos).2, acc ++ encR (Utf8.decode s pos).1, hown'.iterKept hgrow2 HK.out, ?_, ?_, hown'.below hgrow2 hbel' hN⟩
          · rw [strCells_L, HE.out] at hown2
            exact Own.appended hown2 (by rw [← size_L, HE.out])
          · rw [← HC.out, HS.out, List.append_assoc]
        case measure =>
          rw [iterPos_of (hown'.iterKept hgrow2 HK.out), HP.out]
          omega
    · have hnx : ∀ ty, (Instr.next (.pointer (some ⟨w1.heap.size, 0, none⟩)) true ty).run Tryd.prog wr = _ := fun ty => Lib.run_next_end_at wr _ s pos ty hk hp
      have hcv := hown.string
      clear hk
      go_wp2
      go_ret
      refine ⟨ret_str ?_, hbel⟩
      have h1 := HC.out
      rw [drop_nil s pos hp, dL_nil, List.append_nil] at h1
      rw [h1]

end Go.Proofs.YtoijeljjehjfjaaDoor.Ch

namespace Go.Proofs.YtoijeljjehjfjaaDoor.Ch
set_option maxRecDepth 100000
set_option linter.unusedSimpArgs false
set_option linter.unusedVariables false
open Go.RowKit
theorem drop_cons (s : ByteArray) (k : Nat) (h : k < s.size) : (L s).drop k = s[k] :: (L s).drop (k + 1) := by
  rw [List.drop_eq_getElem_cons (by rw [size_L]; exact h)]
  rfl

/-- Was the byte ahead a 13? -/
def was (s : ByteArray) (k : Nat) : Bool := (L s)[k - 1]? == some 13 && decide (0 < k)

theorem was_zero (s : ByteArray) : was s 0 = false := by simp [was]
theorem was_succ (s : ByteArray) (k : Nat) (h : k < s.size) : was s (k + 1) = (s[k] == 13) := by
  have : (L s)[k]? = some s[k] := by rw [List.getElem?_eq_getElem (by rw [size_L]; exact h)]; rfl
  simp [was, this]

theorem bd {acc rest total : List UInt8} {x : UInt8} {n : Nat} (h : (acc ++ [x]) ++ rest = total) (ht : total.length ≤ n) : acc.length + 1 ≤ n := by
  have h1 := congrArg List.length h
  rw [List.length_append, List.length_append, List.length_cons, List.length_nil] at h1
  omega

theorem Own.alloc {N : Nat} {w : World} {v : Value} {l : List UInt8} (h : Own N w v l) (o : Obj) : Own N (w.alloc o) v l := World.ownsRow.alloc h o

set_option maxHeartbeats 1000000 in
theorem lines_any (s : ByteArray) (w : World) (hs : s.size ≤ 140737488355328) :
    Calls Tryd.prog 71 #[.string s] w fun e w' => e = .returned (.string (B (ln false (L s)))) ∧ Below w.heap.size w w' := by
  obtain ⟨i0, hi, hz0, hz1, hz2⟩ := info_parts info_u8
  have hll := ln_len false (L s)
  rw [size_L] at hll
  go_enter Tryd.func71, Tryd.ntmps71
  go_wp2_with (at_make; refine wpList_make_own _ rfl (.const (.int .i64 0)) (.tmp 6) 44 rfl w.heap.size 5 i0 (.int .u8 0) 1 Tryd.underlying44 hi hz0 hz1 .i64 .i64 _ s.size rfl rfl rfl (by rw [hz2]; omega) (by unfold maxLen; omega) (Nat.le_refl _) ?_; intro w1 hown hgrow)
  have hb0 : Below w.heap.size w w1 := (Below.refl w.heap.size w).grown hgrow (Nat.le_refl _) (by simp)
  have ho0 : Own w.heap.size w1 (.slice (some ⟨w.heap.size, 0, none⟩) 0 s.size) [] := hown
  clear hown hgrow
  go_loopw [3, 4, 10] (fun v _ i wr => ∃ (k : Nat) (acc : List UInt8), i = .int .i64 k ∧ k ≤ s.size ∧ Own w.heap.size wr v acc ∧ acc ++ ln (was s k) ((L s).drop k) = ln false (L s) ∧ Below w.heap.size w wr) (fun _ _ i _ => s.size - (intOf i).toNat)
  case atStart => exact ⟨0, [], rfl, Nat.zero_le _, ho0, by simp [was_zero], hb0⟩
  case round =>
    clear ho0 hb0
    obtain ⟨k, acc, rfl, hks, hown, hc, hbel⟩ := hrel
    have hN := hbel.size
    by_cases hp : k < s.size
    · have hdc := drop_cons s k hp
      rw [hdc] at hc
      have hws := was_succ s k hp
      have HW := Lib.hid hws; clear hws hdc
      by_cases h13 : s[k] = 13
      · have hb13 : ((s[k].toNat : Int) == 13) = true := by rw [h13]; rfl
        have hc' : (acc ++ [10]) ++ ln (was s (k + 1)) ((L s).drop (k + 1)) = ln false (L s) := by
          rw [← hc, h13, ln_13, HW.out, h13, List.append_assoc]; rfl
        have hbd := bd hc' hll
        have HC := Lib.hid hc'; clear hc hc' h13
        go_wp2_with (at_builtin; refine wpList_append_own _ rfl (.tmp 24) (.tmp 25) 44 rfl w.heap.size 5 i0 (.int .u8 0) 1 1 Tryd.underlying44 hi hz0 hz1 hz2 rfl (by decide) _ acc.length (acc.map bc) rfl (hown.alloc _) ⟨wr.heap.size, 0, none⟩ 1 1 [.int .u8 10] rfl rfl (cell_one_new _ _ _) (by intro u hu; simp at hu; subst hu; rfl) (by unfold maxLen; omega) (by omega) (by simp; omega) ?_; intro v2 w2 hown2 hgrow2 _)
        go_roundw
        case rel => exact ⟨k + 1, acc ++ [10], by go_num, by omega, Own.appended (m := [10]) hown2 rfl, HC.out, (hown.alloc _).below hgrow2 (hbel.alloc hN _) (by simp; omega)⟩
        case measure => simp [intOf]; omega
      · have hb13 : ((s[k].toNat : Int) == 13) = false := by
          simpa using fun h => h13 (u8_ext (by simpa using (by omega : s[k].toNat = 13)))
        have hn13 : (s[k] == 13) = false := by simpa using h13
        by_cases h10 : s[k] = 10
        · have hb10 : ((s[k].toNat : Int) == 10) = true := by rw [h10]; rfl
          by_cases h0 : 0 < k
          · obtain ⟨j, rfl⟩ : ∃ j, k = j + 1 := ⟨k - 1, by omega⟩
            have hj : j < s.size := by omega
            have hws := was_succ s j hj
            by_cases hj13 : s[j] = 13
            · have hbj : ((s[j].toNat : Int) == 13) = true := by rw [hj13]; rfl
              have hc' : acc ++ ln (was s (j + 1 + 1)) ((L s).drop (j + 1 + 1)) = ln false (L s) := by
                rw [← hc, h10, HW.out, hn13, hws, hj13]
                exact congrArg (acc ++ ·) (ln_10 _).symm
              have HC := Lib.hid hc'; clear hc hc' hws hj13 h10 h13 hn13 h0
              go_wp2_with fail
              go_roundw
              case rel => exact ⟨j + 1 + 1, acc, by go_num, by omega, hown, HC.out, hbel⟩
              case measure => simp [intOf]; omega
            · have hbj : ((s[j].toNat : Int) == 13) = false := by
                simpa using fun h => hj13 (u8_ext (by simpa using (by omega : s[j].toNat = 13)))
              have hc' : (acc ++ [s[j + 1]]) ++ ln (was s (j + 1 + 1)) ((L s).drop (j + 1 + 1)) = ln false (L s) := by
                rw [← hc, ln_other _ _ _ h13 ?_, HW.out, hn13, List.append_assoc]; rfl
                rw [hws]; simp [hj13]
              have hbd := bd hc' hll
              have HC := Lib.hid hc'; clear hc hc' hws hj13 h10 h13 hn13 h0
              go_wp2_with (at_builtin; refine wpList_append_own _ rfl (.tmp 13) (.tmp 17) 44 rfl w.heap.size 5 i0 (.int .u8 0) 1 1 Tryd.underlying44 hi hz0 hz1 hz2 rfl (by decide) _ acc.length (acc.map bc) rfl (hown.alloc _) ⟨wr.heap.size, 0, none⟩ 1 1 [.int .u8 s[j + 1].toNat] rfl rfl (cell_one_new _ _ _) (by intro u hu; simp at hu; subst hu; rfl) (by unfold maxLen; omega) (by omega) (by simp; omega) ?_; intro v2 w2 hown2 hgrow2 _)
              go_roundw
              case rel => exact ⟨j + 1 + 1, acc ++ [s[j + 1]], by go_num, by omega, Own.appended (m := [s[j + 1]]) hown2 rfl, HC.out, (hown.alloc _).below hgrow2 (hbel.alloc hN _) (by simp; omega)⟩
              case measure => simp [intOf]; omega
          · obtain rfl : k = 0 := by omega
            have hc' : (acc ++ [s[0]]) ++ ln (was s (0 + 1)) ((L s).drop (0 + 1)) = ln false (L s) := by
              rw [← hc, ln_other _ _ _ h13 ?_, HW.out, hn13, List.append_assoc]; rfl
              rw [was_zero]; simp
            have hbd := bd hc' hll
            have HC := Lib.hid hc'; clear hc hc' h10 h13 hn13 h0
            go_wp2_with (at_builtin; refine wpList_append_own _ rfl (.tmp 13) (.tmp 17) 44 rfl w.heap.size 5 i0 (.int .u8 0) 1 1 Tryd.underlying44 hi hz0 hz1 hz2 rfl (by decide) _ acc.length (acc.map bc) rfl (hown.alloc _) ⟨wr.heap.size, 0, none⟩ 1 1 [.int .u8 s[0].toNat] rfl rfl (cell_one_new _ _ _) (by intro u hu; simp at hu; subst hu; rfl) (by unfold maxLen; omega) (by omega) (by simp; omega) ?_; intro v2 w2 hown2 hgrow2 _)
            go_roundw
            case rel => exact ⟨0 + 1, acc ++ [s[0]], by go_num, by omega, Own.appended (m := [s[0]]) hown2 rfl, HC.out, (hown.alloc _).below hgrow2 (hbel.alloc hN _) (by simp; omega)⟩
            case measure => simp [intOf]; omega
        · have hb10 : ((s[k].toNat : Int) == 10) = false := by
            simpa using fun h => h10 (u8_ext (by simpa using (by omega : s[k].toNat = 10)))
          have hc' : (acc ++ [s[k]]) ++ ln (was s (k + 1)) ((L s).drop (k + 1)) = ln false (L s) := by
            rw [← hc, ln_other _ _ _ h13 (fun x => h10 x.1), HW.out, hn13, List.append_assoc]; rfl
          have hbd := bd hc' hll
          have HC := Lib.hid hc'; clear hc hc'
          clear h13 h10 hn13
          go_wp2_with (at_builtin; refine wpList_append_own _ rfl (.tmp 13) (.tmp 17) 44 rfl w.heap.size 5 i0 (.int .u8 0) 1 1 Tryd.underlying44 hi hz0 hz1 hz2 rfl (by decide) _ acc.length (acc.map bc) rfl (hown.alloc _) ⟨wr.heap.size, 0, none⟩ 1 1 [.int .u8 s[k].toNat] rfl rfl (cell_one_new _ _ _) (by intro u hu; simp at hu; subst hu; rfl) (by unfold maxLen; omega) (by omega) (by simp; omega) ?_; intro v2 w2 hown2 hgrow2 _)
          go_roundw
          case rel => exact ⟨k + 1, acc ++ [s[k]], by go_num, by omega, Own.appended (m := [s[k]]) hown2 rfl, HC.out, (hown.alloc _).below hgrow2 (hbel.alloc hN _) (by simp; omega)⟩
          case measure => simp [intOf]; omega
    · have hcv := hown.string
      rw [List.drop_eq_nil_of_le (by rw [size_L]; omega)] at hc
      have HC := Lib.hid hc; clear hc
      go_wp2
      go_ret
      refine ⟨ret_str ?_, hbel⟩
      have h1 := HC.out
      rw [show ln (was s k) [] = [] from by cases (was s k) <;> rfl, List.append_nil] at h1
      rw [h1]

theorem ready_any (s : ByteArray) (w : World) (hs : s.size ≤ 140737488355328) (hd : (dL (L s)).length ≤ 140737488355328) :
    Calls Tryd.prog 43 #[.string s] w fun e w' => e = .returned (.string (B (ln false (dL (L s))))) ∧ Below w.heap.size w w' := by
  go_enter Tryd.func43, Tryd.ntmps43
  go_wp2_with fail
  refine (decode_any s _ hs hd).mono ?_
  rintro e w1 ⟨rfl, hb1⟩
  go_wp2_with fail
  refine (lines_any (B (dL (L s))) _ (by rw [size_B]; exact hd)).mono ?_
  rintro e w2 ⟨rfl, hb2⟩
  go_wp2
  go_ret
  exact ⟨ret_str (by rw [L_B]), hb1.trans (hb2.mono hb1.size)⟩

end Go.Proofs.YtoijeljjehjfjaaDoor.Ch

namespace Go.Proofs.YtoijeljjehjfjaaDoor.Bu
set_option maxRecDepth 100000
set_option linter.unusedVariables false
set_option linter.unusedSimpArgs false
open Go.RowKit Ba Fm Fo Nm Bm
open Ro (At Ro Cw ros Fr Ow Rv)
open Tm (Tk within bulk bulkT bulkA)
open To (Tw tks)
open Re (Tab)
/-- Bytes made ready. -/
def rdy (l : List UInt8) : List UInt8 := Ch.ln false (Ch.dL l)
theorem len_rdy (l : List UInt8) : (rdy l).length ≤ 3 * l.length := Nat.le_trans (Ch.ln_len _ _) (Ch.len_dL l)
theorem ready1 (s : ByteArray) (w : World) (hs : s.size ≤ 5000) :
    Calls Tryd.prog 43 #[.string s] w fun e w' => e = .returned (.string (B (rdy (L s)))) ∧ Below w.heap.size w w' := by
  have hsz := size_L s
  have hdl := Ch.len_dL (L s)
  refine (Ch.ready_any s w (by omega) (show (Ch.dL (L s)).length ≤ _ from by omega)).mono ?_
  rintro e w1 ⟨rfl, b1⟩
  exact ⟨rfl, b1⟩
theorem dsum_bulk : ∀ l : List Tk, dsum l ≤ bulk l
  | [] => Nat.zero_le _
  | t :: r => by
    have := dsum_bulk r
    show t.data.size + dsum r ≤ (List.map bulkT (t :: r)).sum
    rw [List.map_cons, List.sum_cons]
    have e : bulkT t = t.name.size + t.data.size + bulkA t.attrs + t.attrs.length := rfl
    have e2 : bulk r = (List.map bulkT r).sum := rfl
    omega
/-- What In comes to, and how great it may be. -/
def SaysM (w : World) (r : Option (List Ro)) (e : Ending) (w' : World) : Prop :=
  (match r with
  | none => e = .returned (.tuple #[.slice none 0 0, .int .i64 2])
  | some o => ∃ v y, e = .returned (.tuple #[v, .int .i64 0]) ∧ Rv w' v y ∧ ros y = o ∧ Ro.Few o ∧ (Ro.txt o).length ≤ 1000000000) ∧ Below w.heap.size w w'
/-- What In and Parse come to. -/
def Says (w : World) (r : Option (List Ro)) (e : Ending) (w' : World) : Prop :=
  (match r with
  | none => e = .returned (.tuple #[.slice none 0 0, .int .i64 2])
  | some o => ∃ v y, e = .returned (.tuple #[v, .int .i64 0]) ∧ Rv w' v y ∧ ros y = o) ∧ Below w.heap.size w w'
theorem TreeSays.cases {w w' : World} {t : List Tk} {e : Ending} (h : TreeSays w t e w') :
    (treeB ⟨[], []⟩ t = none ∧ e = .returned (.tuple #[.slice none 0 0, .int .i64 2]) ∧ Below w.heap.size w w') ∨
    (∃ o v y, treeB ⟨[], []⟩ t = some o ∧ e = .returned (.tuple #[v, .int .i64 0]) ∧ Ow w.heap.size w' v y ∧ (∀ z ∈ y, Fr w.heap.size w' z) ∧ ros y = o ∧ (Ro.Few o ∧ (Ro.txt o).length ≤ 1000000000) ∧ Below w.heap.size w w') := by
  obtain ⟨h1, h2⟩ := h
  cases ht : treeB ⟨[], []⟩ t with
  | none => rw [ht] at h1; exact .inl ⟨rfl, h1, h2⟩
  | some o =>
    rw [ht] at h1
    obtain ⟨v, y, e1, e2, e3, e4, e5⟩ := h1
    exact .inr ⟨o, v, y, rfl, e1, e2, e3, e4, e5, h2⟩
theorem good_zero : ∀ {l : List Ro} {p : List ByteArray}, goodFrom p l → ∀ x ∈ l, 0 ≤ x.depth
  | [], p, _, x, h => by cases h
  | y :: l, p, h, x, hx => by
    rcases List.mem_cons.1 hx with e | e
    · rw [e]; exact h.1.1
    · exact good_zero h.2 x e
theorem tree_held {t : List Tk} {o : List Ro} (h : treeB ⟨[], []⟩ t = some o) : Ro.Held o := fun x hx => by
  obtain ⟨h1, _, _, h2⟩ := tree_all h
  have := good_zero h1 x hx
  have := h2.2 x hx
  omega

set_option maxRecDepth 100000 in
theorem In_big (s nm : ByteArray) (w : World) (hs : 65536 < s.size) :
    Calls Tryd.prog 17 #[.string s, .string nm] w fun e w' => e = .returned (.tuple #[.slice none 0 0, .int .i64 2]) ∧ w = w' := by
  have h : decide ((65536 : Int) < (s.size : Int)) = true := decide_eq_true (by omega)
  go_enter Tryd.func17, Tryd.ntmps17
  go_wp2
  go_ret2
  exact ⟨rfl, rfl⟩

set_option maxRecDepth 100000 in
set_option maxHeartbeats 1000000 in
theorem In_any (s nm : ByteArray) (w : World) (hs : s.size ≤ 5000) (hn : nm.size ≤ 140737488351232) (hT : Tab w) :
    Calls Tryd.prog 17 #[.string s, .string nm] w fun e w' => SaysM w (treeB ⟨[], []⟩ (within (L nm) (rdy (L s)))) e w' := by
  have h : decide ((65536 : Int) < (s.size : Int)) = false := decide_eq_false (by omega)
  have hsz := size_L s
  have hdl := Ch.len_dL (L s)
  have hrl := len_rdy (L s)
  have HT := Lib.hid hT
  clear hT
  go_enter Tryd.func17, Tryd.ntmps17
  go_wp2_with fail
  refine (ready1 s w hs).mono ?_
  rintro e w1 ⟨rfl, b1⟩
  have hT1 := HT.out.below b1
  have HB1 := Lib.hid b1
  clear b1
  go_wp2_with fail
  refine (To.In_any (B (rdy (L s))) nm w1 (by rw [size_B]; omega) hn hT1).mono ?_
  rintro e w2 ⟨V, l, rfl, ho, hl, b2⟩
  rw [L_B] at hl
  obtain ⟨A, c, rfl, hc, _, _, hr⟩ := ho.form
  have hwl := Tm.within_len (L nm) (rdy (L s))
  have hwb := Tm.bulk_within (L nm) (rdy (L s))
  have hl' : tks l = within (L nm) (rdy (L s)) := hl
  have hll : l.length ≤ 200000 := by rw [← To.len_tks, hl']; omega
  have hds : dsum (tks l) ≤ 1000000000 := by
    have := dsum_bulk (tks l)
    rw [hl'] at this ⊢
    omega
  have hat : ∀ x ∈ l, x.tk.attrs.length ≤ 1000000 := fun x hx => by
    have h1 := Tm.bulk_mem (l := tks l) (t := x.tk) (List.mem_map.2 ⟨x, hx, rfl⟩)
    rw [hl'] at h1
    unfold bulkT at h1
    omega
  have HL := Lib.hid hl'; have HR := Lib.hid hr; have HB2 := Lib.hid (bt HB1.out b2)
  clear hl hl' hr ho b2 hwl hwb hT1 hdl hrl hsz
  go_wp2_with fail
  refine (Tree_any A c l w2 HR.out hc hll hds hat).mono ?_
  intro e w3 h3
  rw [HL.out] at h3
  rcases h3.cases with ⟨ht, rfl, b3⟩ | ⟨o, v, y, ht, rfl, how, hfr, hros, hmi, b3⟩
  · have HTR := Lib.hid ht
    clear ht h3
    go_wp2
    go_ret2
    rw [HTR.out]
    exact ⟨rfl, bt HB2.out b3⟩
  · have HTR := Lib.hid ht; have HO := Lib.hid how; have HRO := Lib.hid hros; have HB3 := Lib.hid (bt HB2.out b3)
    clear ht h3 how hfr hros b3
    go_wp2
    go_ret2
    rw [HTR.out]
    exact ⟨⟨v, y, rfl, HO.out.rv (by rw [HRO.out]; exact tree_held HTR.out), HRO.out, hmi⟩, HB3.out⟩

theorem In1 (s nm : ByteArray) (w : World) (r : Option (List Ro)) (hs : s.size ≤ 5000) (hn : nm.size ≤ 140737488351232) (hT : Tab w) (hr : treeB ⟨[], []⟩ (within (L nm) (rdy (L s))) = r) :
    Calls Tryd.prog 17 #[.string s, .string nm] w fun e w' => Says w r e w' := by
  subst hr
  refine (In_any s nm w hs hn hT).mono ?_
  rintro e w' ⟨h1, h2⟩
  refine ⟨?_, h2⟩
  cases ht : treeB ⟨[], []⟩ (within (L nm) (rdy (L s))) with
  | none => rw [ht] at h1; exact h1
  | some o =>
    rw [ht] at h1
    obtain ⟨v, y, a, b, c, _⟩ := h1
    exact ⟨v, y, a, b, c⟩
theorem InM (s nm : ByteArray) (w : World) (r : Option (List Ro)) (hs : s.size ≤ 5000) (hn : nm.size ≤ 140737488351232) (hT : Tab w) (hr : treeB ⟨[], []⟩ (within (L nm) (rdy (L s))) = r) :
    Calls Tryd.prog 17 #[.string s, .string nm] w fun e w' => SaysM w r e w' := by
  subst hr
  exact In_any s nm w hs hn hT

theorem Parse_big (s : ByteArray) (w : World) (hs : 65536 < s.size) :
    Calls Tryd.prog 23 #[.string s] w fun e w' => e = .returned (.tuple #[.slice none 0 0, .int .i64 2]) ∧ w = w' := by
  go_enter Tryd.func23, Tryd.ntmps23
  go_wp2_with fail
  refine (In_big s _ w hs).mono ?_
  rintro e w1 ⟨rfl, rfl⟩
  go_wp2
  go_ret2
  exact ⟨rfl, rfl⟩
theorem Parse1 (s : ByteArray) (w : World) (r : Option (List Ro)) (hs : s.size ≤ 5000) (hT : Tab w) (hr : treeB ⟨[], []⟩ (within [] (rdy (L s))) = r) :
    Calls Tryd.prog 23 #[.string s] w fun e w' => Says w r e w' := by
  go_enter Tryd.func23, Tryd.ntmps23
  go_wp2_with fail
  refine (In1 s _ w r hs (by decide) hT hr).mono ?_
  intro e w1 h1
  cases r with
  | none =>
    obtain ⟨rfl, b1⟩ := h1
    go_wp2
    go_ret2
    exact ⟨rfl, b1⟩
  | some o =>
    obtain ⟨⟨v, y, rfl, hv, hy⟩, b1⟩ := h1
    have HV := Lib.hid hv; have HY := Lib.hid hy
    clear hv hy hr
    go_wp2
    go_ret2
    exact ⟨⟨v, y, rfl, HV.out, HY.out⟩, b1⟩

end Go.Proofs.YtoijeljjehjfjaaDoor.Bu

namespace Go.Proofs.YtoijeljjehjfjaaDoor.Tm
set_option linter.unusedVariables false
set_option linter.unusedSimpArgs false
open Ba Fm Rm Nm
open Ro (At)
def runF (f : List UInt8 → List UInt8 × Nat) : Nat → List UInt8 → List UInt8
  | 0, _ => []
  | n + 1, l => if l.isEmpty = true then [] else (f l).1 ++ runF f n (l.drop ((f l).2 - 1 + 1))
theorem run_eval (f : List UInt8 → List UInt8 × Nat) : ∀ (n : Nat) (l : List UInt8), l.length ≤ n → run f l = runF f n l
  | 0, l, h => by
    have : l = [] := List.eq_nil_of_length_eq_zero (by omega)
    rw [this, run_nil]
    rfl
  | n + 1, l, h => by
    by_cases he : l = []
    · rw [he, run_nil]; rfl
    · rw [run, dif_neg he]
      have hi : l.isEmpty = false := by simpa using he
      show _ = if l.isEmpty = true then [] else _
      rw [if_neg (by rw [hi]; simp), run_eval f n]
      have : 0 < l.length := List.length_pos_iff.2 he
      rw [List.length_drop]
      omega
def decF (l : List UInt8) : List UInt8 := runF fst l.length l
theorem dec_eval : dec = decF := funext fun l => run_eval fst l.length l (Nat.le_refl _)
def valuedF (l : List UInt8) : List UInt8 × List UInt8 :=
  if l.head? = some 61 then (decF (value (trimS (l.drop 1))).1, (value (trimS (l.drop 1))).2) else ([], l)
theorem valued_eval : valued = valuedF := by funext l; unfold valued valuedF; rw [dec_eval]
def attrF (c : UInt8) (r : List UInt8) : At × List UInt8 :=
  (⟨B (lowL (c :: upTo ea r)), B (valuedF (trimS (from_ ea r))).1⟩, (valuedF (trimS (from_ ea r))).2)
theorem attr_eval : attr = attrF := by funext c r; unfold attr attrF; rw [valued_eval]
def attrsF : Nat → Bool → List At → List UInt8 → Option (List At × Bool × List UInt8)
  | 0, _, _, _ => none
  | _ + 1, _, _, [] => none
  | n + 1, self, acc, c :: r => if c = 62 then some (acc, self, r) else if c = 47 ∨ sp c = true then attrsF n (c == 47) acc r else attrsF n false (put acc (attrF c r).1) (attrF c r).2
theorem attrs_eval : ∀ (n : Nat) (self : Bool) (acc : List At) (l : List UInt8), l.length < n → attrs self acc l = attrsF n self acc l
  | 0, _, _, _, h => absurd h (by omega)
  | n + 1, self, acc, [], _ => attrs_nil self acc
  | n + 1, self, acc, c :: r, h => by
    simp only [List.length_cons] at h
    have h3 := len_attr c r
    rw [attrs]
    show _ = if c = 62 then some (acc, self, r) else if c = 47 ∨ sp c = true then attrsF n (c == 47) acc r else attrsF n false (put acc (attrF c r).1) (attrF c r).2
    rw [attrs_eval n _ _ r (by omega), attrs_eval n _ _ (attr c r).2 (by omega), attr_eval]
def contF (n : List UInt8) (l : List UInt8) : List Tk × List UInt8 :=
  if rawB n = true then (txt (lead (isEnd n) l), trail (isEnd n) l)
  else if softB n = true then (txt (decF (lead (isEnd n) l)), trail (isEnd n) l)
  else ([], l)
theorem cont_eval : cont = contF := by funext n l; unfold cont contF; rw [dec_eval]
def startF (l : List UInt8) : List Tk × List UInt8 := match attrsF ((from_ en l).length + 1) false [] (from_ en l) with
  | none => ([], [])
  | some (bs, self, r) => (⟨1, B (lowL (upTo en l)), B [], bs, self⟩ :: (contF (lowL (upTo en l)) r).1, (contF (lowL (upTo en l)) r).2)
def endF (l : List UInt8) : List Tk × List UInt8 := match attrsF ((from_ en l).length + 1) false [] (from_ en l) with
  | none => ([], [])
  | some (bs, self, r) => ([⟨2, B (lowL (upTo en l)), B [], [], false⟩], r)
theorem start_eval : startTag = startF := by funext l; unfold startTag startF; rw [attrs_eval ((from_ en l).length + 1) _ _ _ (Nat.lt_succ_self _), cont_eval]; rfl
theorem end_eval : endTag = endF := by funext l; unfold endTag endF; rw [attrs_eval ((from_ en l).length + 1) _ _ _ (Nat.lt_succ_self _)]; rfl
def mkF (l : List UInt8) : List Tk × List UInt8 :=
  if begun l = 1 then startF (l.drop 1)
  else if begun l = 2 then endF (l.drop 2)
  else if begun l = 3 then ([], l.drop 3)
  else if begun l = 4 then ([⟨3, B [], B (comm (l.drop 4)).1, [], false⟩], (comm (l.drop 4)).2)
  else if begun l = 5 then ([⟨4, B [], B (trimL (closed (l.drop 9)).1), [], false⟩], (closed (l.drop 9)).2)
  else if begun l = 6 then ([⟨3, B [], B (closed (marks (l.drop 1))).1, [], false⟩], (closed (marks (l.drop 1))).2)
  else ([], l)
theorem mk_eval : mk = mkF := by funext l; unfold mk mkF; rw [start_eval, end_eval]
def turnF (l : List UInt8) : List Tk × List UInt8 := (txt (decF (lead bg l)) ++ (mkF (trail bg l)).1, (mkF (trail bg l)).2)
theorem turn_eval : turn = turnF := by funext l; unfold turn turnF; rw [dec_eval, mk_eval]
def cutF : Nat → List UInt8 → List Tk
  | 0, _ => []
  | n + 1, l => if l.isEmpty = true then [] else (turnF l).1 ++ cutF n (turnF l).2
theorem cut_eval : ∀ (n : Nat) (l : List UInt8), l.length ≤ n → cut l = cutF n l
  | 0, l, h => by
    have : l = [] := List.eq_nil_of_length_eq_zero (by omega)
    rw [this]
    exact To.cut_nil
  | n + 1, l, h => by
    by_cases he : l = []
    · rw [he]; exact To.cut_nil
    · have hi : l.isEmpty = false := by simpa using he
      have hl := To.len_turn he
      show _ = if l.isEmpty = true then [] else _
      rw [if_neg (by rw [hi]; simp), To.cut_step he, cut_eval n _ (by omega), turn_eval]
def withinF (n l : List UInt8) : List Tk := (contF n l).1 ++ cutF l.length (contF n l).2
theorem within_eval (n l : List UInt8) : within n l = withinF n l := by
  unfold within withinF
  rw [cut_eval l.length _ (To.len_cont n l), cont_eval]
end Go.Proofs.YtoijeljjehjfjaaDoor.Tm

namespace Go.Proofs.YtoijeljjehjfjaaDoor.Bm
set_option linter.unusedVariables false
set_option linter.unusedSimpArgs false
open Ba Fm Nm
open Ro (At Ro)
open Tm (Tk put tx)
def closedF (ns ws : List ByteArray) : Nat → List ByteArray → List ByteArray
  | 0, s => s
  | k + 1, s => match findS ns ws s with
    | none => s
    | some r => closedF ns ws k r
theorem closed_eval (ns ws : List ByteArray) : ∀ (k : Nat) (s : List ByteArray), s.length ≤ k → closedS ns ws s = closedF ns ws k s
  | 0, s, h => by
    obtain rfl : s = [] := List.eq_nil_of_length_eq_zero (by omega)
    rw [closedS_no rfl]
    rfl
  | k + 1, s, h => by
    unfold closedF
    cases hf : findS ns ws s with
    | none => rw [closedS_no hf]
    | some r =>
      rw [closedS_yes hf]
      exact closed_eval ns ws k r (by have := findS_len hf; omega)
def openedF (n : ByteArray) (s : List ByteArray) : List ByteArray :=
  if para n = true then closedF [n_p] (wallsL n_p) s.length (closedF (closesL n) (wallsL n) s.length s) else closedF (closesL n) (wallsL n) s.length s
theorem opened_eval (n : ByteArray) (s : List ByteArray) : openedS n s = openedF n s := by
  unfold openedS openedF
  rw [← closed_eval _ _ s.length s (Nat.le_refl _), ← closed_eval _ _ s.length _ (closedS_end _ _ _).2.length_le]
def stepF (st : St) (t : Tk) : St :=
  if t.kind = 0 then (if t.data = ⟨#[]⟩ then st else ⟨st.stk, addText st.out st.stk.length t.data⟩)
  else if t.kind = 3 then ⟨st.stk, st.out ++ [⟨st.stk.length, 2, ⟨#[]⟩, t.data, []⟩]⟩
  else if t.kind = 1 then (if noName t.name = true then st else ⟨if isIn t.name voidL = true then openedF t.name st.stk else t.name :: openedF t.name st.stk, st.out ++ [⟨(openedF t.name st.stk).length, 0, t.name, ⟨#[]⟩, once t.attrs⟩]⟩)
  else if t.kind = 2 then (if noName t.name = true ∨ isIn t.name voidL = true then st else
    match findS [t.name] (endWalls t.name) st.stk with
    | some r => ⟨r, st.out⟩
    | none => if t.name = n_p then ⟨st.stk, st.out ++ [⟨st.stk.length, 0, n_p, ⟨#[]⟩, []⟩]⟩ else st)
  else st
theorem step_eval (st : St) (t : Tk) : stepB st t = stepF st t := by
  unfold stepB stepF
  rw [← opened_eval]
  rfl
def treeF (st : St) : List Tk → Option (List Ro)
  | [] => some st.out
  | t :: r => if tooBig (stepF st t).out = true then none else treeF (stepF st t) r
theorem tree_eval : ∀ (l : List Tk) (st : St), treeB st l = treeF st l
  | [], st => rfl
  | t :: r, st => by
    show (if tooBig (stepB st t).out = true then none else treeB (stepB st t) r) = (if tooBig (stepF st t).out = true then none else treeF (stepF st t) r)
    rw [step_eval, tree_eval r]
def nestedF (n : ByteArray) (o : List ByteArray) : Bool := decide ((openedF n o.reverse).length = o.length)
theorem nested_eval (n : ByteArray) (o : List ByteArray) : nestedB n o = nestedF n o := by
  unfold nestedB nestedF
  rw [opened_eval]

abbrev rE (d : Int) (n : List UInt8) : Ro := ⟨d, 0, B n, ⟨#[]⟩, []⟩
abbrev rT (d : Int) (s : List UInt8) : Ro := ⟨d, 1, ⟨#[]⟩, B s, []⟩
abbrev t1 (n : List UInt8) : Tk := ⟨1, B n, B [], [], false⟩
abbrev t2 (n : List UInt8) : Tk := ⟨2, B n, B [], [], false⟩
set_option maxRecDepth 100000 in
theorem tokA : Tm.within [] [60, 112, 62, 97, 60, 112, 62, 98] = [t1 [112], tx [97], t1 [112], tx [98]] := by rw [Tm.within_eval]; decide
set_option maxRecDepth 100000 in
theorem treA : treeB ⟨[], []⟩ [t1 [112], tx [97], t1 [112], tx [98]] = some [rE 0 [112], rT 1 [97], rE 0 [112], rT 1 [98]] := by rw [tree_eval]; decide
set_option maxRecDepth 100000 in
theorem tokB : Tm.within [] [60, 117, 108, 62, 60, 108, 105, 62, 97, 60, 108, 105, 62, 98, 60, 47, 117, 108, 62, 99] = [t1 [117, 108], t1 [108, 105], tx [97], t1 [108, 105], tx [98], t2 [117, 108], tx [99]] := by rw [Tm.within_eval]; decide
set_option maxRecDepth 100000 in
theorem treB : treeB ⟨[], []⟩ [t1 [117, 108], t1 [108, 105], tx [97], t1 [108, 105], tx [98], t2 [117, 108], tx [99]] = some [rE 0 [117, 108], rE 1 [108, 105], rT 2 [97], rE 1 [108, 105], rT 2 [98], rT 0 [99]] := by rw [tree_eval]; decide
set_option maxRecDepth 100000 in
theorem tokC : Tm.within [] [60, 47, 112, 62] = [t2 [112]] := by rw [Tm.within_eval]; decide
set_option maxRecDepth 100000 in
theorem treC : treeB ⟨[], []⟩ [t2 [112]] = some [rE 0 [112]] := by rw [tree_eval]; decide
set_option maxRecDepth 100000 in
theorem tokD : Tm.within [] [97, 60, 47, 98, 62, 99] = [tx [97], t2 [98], tx [99]] := by rw [Tm.within_eval]; decide
set_option maxRecDepth 100000 in
theorem treD : treeB ⟨[], []⟩ [tx [97], t2 [98], tx [99]] = some [rT 0 [97, 99]] := by rw [tree_eval]; decide
set_option maxRecDepth 100000 in
theorem tokE : Tm.within [115, 116, 121, 108, 101] [97, 60, 98, 62] = [tx [97, 60, 98, 62]] := by rw [Tm.within_eval]; decide
set_option maxRecDepth 100000 in
theorem treE : treeB ⟨[], []⟩ [tx [97, 60, 98, 62]] = some [rT 0 [97, 60, 98, 62]] := by rw [tree_eval]; decide
theorem nesA : nestedB n_p [n_p, ⟨#[98]⟩] = false := by rw [nested_eval]; decide
theorem nesB : nestedB n_p [n_p, n_td] = true := by rw [nested_eval]; decide

end Go.Proofs.YtoijeljjehjfjaaDoor.Bm

namespace Go.Proofs.YtoijeljjehjfjaaDoor.Re
set_option maxRecDepth 100000
set_option linter.unusedSimpArgs false
set_option linter.unusedVariables false
open Go.ChangeShapes Go.WideShapes Go.ChangeAt Go.RowKit Ba Rm
abbrev laidL : List (String × DataW Unit) := [("bolting/refs.named", Rows.laid_bolting_refs_named)]
theorem gNamed : Tryd.prog.globalNamed "bolting/refs.named" = some 0 := by kernel_rfl
theorem tNamed : (Tryd.prog.globals[0]?).map (·.type) = some 109 := by kernel_rfl
theorem datum : (Rows.laid_bolting_refs_named : DataW Unit) = .agg (tab.map fun p => .agg [.lit (.string p.1), .lit (.int .i64 p.2)]) := by kernel_rfl
theorem c34 : Tryd.prog.cellsOf 108 = 2 := by kernel_rfl
theorem c9 : Tryd.prog.cellsOf 9 = 1 := by kernel_rfl
theorem c3 : Tryd.prog.cellsOf 3 = 1 := by kernel_rfl

theorem door_met (os : Os) (args : Array Value) : laidMetH Tryd.prog laidL ((World.doorLaid Tryd.prog 400 os).forCall (fun _ _ => 0) ⟨#[], args, []⟩).memory :=
  laidMetH_of_parts3 (fuel := 8) (laidMet_of_run' 8 (by kernel_rfl) (by kernel_rfl)) (by kernel_rfl) (by kernel_rfl)

theorem pair_at {W : World} {enc : TypeId × Value → Unit} {sp : Nat → Bool} {hd : Bool} {m : Nat} {cs : List Value} {x : DataW Unit × List MemPlace} {p : List UInt8 × Nat}
    (h : DataW.trod enc Tryd.prog W 0 sp hd m 108 cs = some x) (e : x.1 = .agg [.lit (.string p.1), .lit (.int .i64 p.2)]) : cs = [.string (B p.1), .int .i64 p.2] := by
  obtain ⟨y0, y1, n, rfl, hl, h0, h1⟩ := trod_struct2 Tryd.underlying108 h
  rw [c34] at hl
  simp only [DataW.agg.injEq, List.cons.injEq, and_true] at e
  obtain ⟨e0, e1⟩ := e
  obtain ⟨s, q0, rfl, _⟩ := DataW.trod_string Tryd.underlying9 h0
  obtain ⟨k, q1, rfl, _⟩ := DataW.trod_int Tryd.underlying3 h1
  simp only [DataW.lit.injEq, Lit.string.injEq, Lit.int.injEq, true_and] at e0 e1
  have q0' : (cs.drop 0).take 1 = [.string s] := by rw [← q0]; rw [show Tryd.prog.cellsOf _ = 1 from c9]
  have q1' : (cs.drop 1).take 1 = [.int .i64 k] := by rw [← q1]; rw [show Tryd.prog.cellsOf _ = 1 from c3]
  match cs, hl, q0', q1' with
  | [a, b], _, q0', q1' =>
    simp at q0' q1'
    rw [q0', q1', e1, show s = B p.1 from B_of e0]

set_option maxRecDepth 100000 in
theorem tab_of_laid {W : World} (h : laidMetH Tryd.prog laidL W) : Tab W := by
  rw [MakeChecks.laidMetH_plain _ _ _ (by kernel_rfl)] at h
  obtain ⟨ps, ⟨g0, t0, cs0, f0, p0, q0, hg0, ht0, hv0, hd0, _, _⟩, _, _⟩ := h
  obtain rfl := Option.some.inj (gNamed.symm.trans hg0)
  obtain rfl := Option.some.inj (tNamed.symm.trans ht0)
  rw [datum] at hd0
  obtain ⟨xs, m, rfl, hx, hlen, hn, hel⟩ := DataW.trod_array Tryd.underlying109 hd0
  simp only [Prod.mk.injEq, DataW.agg.injEq] at hx
  have hc : ∀ i, i < 24 → ∀ p, tab[i]? = some p → (cs0.toList.drop (2 * i)).take 2 = [.string (B p.1), .int .i64 p.2] := by
    intro i hi p hp
    have h1 := hel i hi
    rw [c34, Nat.mul_comm i 2] at h1
    have hxi : i < xs.length := by omega
    rw [List.getElem?_eq_getElem hxi] at h1
    refine pair_at h1 ?_
    have h2 := congrArg (fun l => l[i]?) hx.1
    simp only [List.getElem?_map, hp, Option.map_some, List.getElem?_eq_getElem hxi, Option.some.injEq] at h2
    exact h2.symm
  have hcell : ∀ j v, (cellsOf2 tab)[j]? = some v → W.cell? ⟨0, j, none⟩ = some v := by
    intro j v hv
    rw [World.var?_cell hg0 hv0 j, ← Array.getElem?_toList]
    have hj : j < 48 := (List.getElem?_eq_some_iff.1 hv).1
    have hi : j / 2 < 24 := by omega
    obtain ⟨p, hp⟩ : ∃ p, tab[j / 2]? = some p := ⟨_, List.getElem?_eq_getElem (show j / 2 < tab.length from hi)⟩
    have h1 := hc (j / 2) hi p hp
    have h2 : ((cellsOf2 tab).drop (2 * (j / 2))).take 2 = [.string (B p.1), .int .i64 p.2] := by
      rw [cellsOf2_drop]
      have : tab.drop (j / 2) = p :: tab.drop (j / 2 + 1) := by
        rw [List.drop_eq_getElem_cons (show j / 2 < tab.length from hi)]
        congr 1
        rw [List.getElem?_eq_getElem (show j / 2 < tab.length from hi)] at hp
        exact Option.some.inj hp
      rw [this]; rfl
    have h3 : ∀ l : List Value, ((l.drop (2 * (j / 2))).take 2)[j % 2]? = l[j]? := fun l => by
      rw [List.getElem?_take_of_lt (by omega), List.getElem?_drop]
      congr 1
      omega
    rw [← h3, h1, ← h2, h3]
    exact hv
  refine ⟨fun j v hv => by rw [Nat.zero_add]; exact hcell j v hv, ?_⟩
  have h0 := hcell 0 (.string (B [97, 109, 112])) rfl
  cases hz : W.heap.size with
  | succ n => omega
  | zero =>
    have : W.heap[0]? = none := Array.getElem?_eq_none (by omega)
    simp [World.cell?, this] at h0

end Go.Proofs.YtoijeljjehjfjaaDoor.Re

namespace Go.Proofs.YtoijeljjehjfjaaDoor.Bu
set_option maxRecDepth 100000
set_option linter.unusedVariables false
set_option linter.unusedSimpArgs false
open Go.RowKit Ba Fm Fo Nm Bm
open Ro (At Ro Cw ros Fr Ow Rv cells bare rows_new refSame1)
open Tm (Tk within tx)
open Re (Tab)
theorem el_any (d : Int) (n : ByteArray) (w : World) : Calls Tryd.prog 29 #[.int .i64 d, .string n] w fun e w' => e = .returned (.agg #[.int .i64 d, .int .i64 0, .string n, .string ⟨#[]⟩, .slice none 0 0]) ∧ Below w.heap.size w w' := by
  go_enter Tryd.func29, Tryd.ntmps29
  go_wp2
  refine bodyPost_ret (v := .agg #[.int .i64 d, .int .i64 0, .string n, .string ⟨#[]⟩, .slice none 0 0]) (by simp [results, Tryd.f29, go_sem]) rfl ?_
  exact ⟨rfl, below_one w _⟩
theorem text_any (d : Int) (n : ByteArray) (w : World) : Calls Tryd.prog 30 #[.int .i64 d, .string n] w fun e w' => e = .returned (.agg #[.int .i64 d, .int .i64 1, .string ⟨#[]⟩, .string n, .slice none 0 0]) ∧ Below w.heap.size w w' := by
  go_enter Tryd.func30, Tryd.ntmps30
  go_wp2
  refine bodyPost_ret (v := .agg #[.int .i64 d, .int .i64 1, .string ⟨#[]⟩, .string n, .slice none 0 0]) (by simp [results, Tryd.f30, go_sem]) rfl ?_
  exact ⟨rfl, below_one w _⟩

theorem ros_bare (o : List Ro) : ros (o.map bare) = o := by
  unfold ros
  rw [List.map_map]
  exact List.map_id _
/-- What was told is held against rows written out. -/
theorem sameR (w : World) (V : Value) (x : List Cw) (o : List Ro) (cs : Array Value) (n : Nat) (hv : Rv w V x) (hx : x.length ≤ 1000) (hn : o.length = n) (hm : n ≤ 1000) (ha : ∀ r ∈ o, r.attrs = []) (hh : Ro.Held o) (hcs : cs.toList = (o.map bare).flatMap cells) (q : Bool) (hq : decide (ros x = o) = q) :
    Calls Tryd.prog 13 #[V, .slice (some ⟨w.heap.size, 0, none⟩) n n] (w.alloc (.cells cs 31)) fun e w' => e = .returned (.bool q) ∧ Below w.heap.size w w' := by
  have ho := rows_new w (o.map bare) cs n (by rw [List.length_map]; exact hn) (by unfold maxLen; omega) hcs (fun y hy => by
    obtain ⟨r, hr, rfl⟩ := List.mem_map.1 hy
    exact ⟨r, rfl, ha r hr⟩)
  refine (refSame1 V _ x (o.map bare) (w.alloc (.cells cs 31)) q (hv.below (below_one w _)) (ho.rv (by rw [ros_bare]; exact hh)) (by omega) (by rw [List.length_map]; omega) (by rw [ros_bare]; exact hq)).mono ?_
  rintro e w' ⟨he, hb⟩
  exact ⟨he, bt (below_one w _) hb⟩

theorem rdy_plain {l : List UInt8} (h : Ch.plain l) : rdy l = l := by unfold rdy; rw [Ch.plain_dL l h, Ch.plain_ln l h]
/-- A call whose argument is plain. -/
theorem ParseP (s : ByteArray) (w : World) (t : List Tk) (o : List Ro) (hs : s.size ≤ 5000) (hT : Tab w) (hp : Ch.plain (L s)) (ht : within [] (L s) = t) (ho : treeB ⟨[], []⟩ t = some o) :
    Calls Tryd.prog 23 #[.string s] w fun e w' => ∃ v y, e = .returned (.tuple #[v, .int .i64 0]) ∧ Rv w' v y ∧ ros y = o ∧ Below w.heap.size w w' := by
  refine (Parse1 s w (some o) hs hT (by rw [rdy_plain hp, ht]; exact ho)).mono ?_
  rintro e w' ⟨⟨v, y, he, hv, hy⟩, hb⟩
  exact ⟨v, y, he, hv, hy, hb⟩
theorem InP (s nm : ByteArray) (w : World) (t : List Tk) (o : List Ro) (hs : s.size ≤ 5000) (hn : nm.size ≤ 140737488351232) (hT : Tab w) (hp : Ch.plain (L s)) (ht : within (L nm) (L s) = t) (ho : treeB ⟨[], []⟩ t = some o) :
    Calls Tryd.prog 17 #[.string s, .string nm] w fun e w' => ∃ v y, e = .returned (.tuple #[v, .int .i64 0]) ∧ Rv w' v y ∧ ros y = o ∧ Below w.heap.size w w' := by
  refine (In1 s nm w (some o) hs hn hT (by rw [rdy_plain hp, ht]; exact ho)).mono ?_
  rintro e w' ⟨⟨v, y, he, hv, hy⟩, hb⟩
  exact ⟨v, y, he, hv, hy, hb⟩
theorem len_of {y : List Cw} {o : List Ro} {n : Nat} (h : ros y = o) (hn : o.length ≤ n) : y.length ≤ n := by rw [← Ro.len_ros, h]; exact hn
theorem nestedLit (n : ByteArray) (w : World) (l : List ByteArray) (k : Nat) (hk : l.length = k) (q : Bool) (hq : nestedB n l = q) (hm : k ≤ 1000) :
    Calls Tryd.prog 15 #[.string n, .slice (some ⟨w.heap.size, 0, none⟩) k k] (w.alloc (.cells (l.map sc).toArray 9)) fun e w' => e = .returned (.bool q) ∧ Below w.heap.size w w' := by
  subst hk
  refine (nested_any n _ l _ (by omega) (sv_lit w l) q hq).mono ?_
  rintro e w' ⟨he, hb⟩
  exact ⟨he, bt (below_one w _) hb⟩
theorem no_attrs {o : List Ro} (h : (o.all fun r => decide (r.attrs = [])) = true) : ∀ r ∈ o, r.attrs = [] := fun r hr => of_decide_eq_true (List.all_eq_true.1 h r hr)
theorem held_of {o : List Ro} (h : (o.all fun r => decide (-9223372036854775808 ≤ r.depth) && decide (r.depth ≤ 9223372036854775807)) = true) : Ro.Held o := fun r hr => by
  have := List.all_eq_true.1 h r hr
  rw [Bool.and_eq_true, decide_eq_true_iff, decide_eq_true_iff] at this
  exact this

set_option maxRecDepth 100000 in
set_option maxHeartbeats 4000000 in
theorem fixed_any (w : World) (hT : Tab w) : Calls Tryd.prog 14 #[] w fun e w' => e = .returned (.bool true) ∧ Below w.heap.size w w' := by
  have HT := Lib.hid hT; clear hT
  go_enter Tryd.func14, Tryd.ntmps14
  go_wp2_with fail
  refine (ParseP _ w _ _ (by decide) HT.out (by unfold Ch.plain; decide) tokA treA).mono ?_
  rintro e w1 ⟨V1, y1, rfl, v1, r1, b1⟩
  go_wp2_with fail
  refine (ParseP _ w1 _ _ (by decide) (HT.out.below b1) (by unfold Ch.plain; decide) tokB treB).mono ?_
  rintro e w2 ⟨V2, y2, rfl, v2, r2, b2⟩
  have B2 := bt b1 b2
  go_wp2_with fail
  refine (ParseP _ w2 _ _ (by decide) (HT.out.below B2) (by unfold Ch.plain; decide) tokC treC).mono ?_
  rintro e w3 ⟨V3, y3, rfl, v3, r3, b3⟩
  have B3 := bt B2 b3
  go_wp2_with fail
  refine (ParseP _ w3 _ _ (by decide) (HT.out.below B3) (by unfold Ch.plain; decide) tokD treD).mono ?_
  rintro e w4 ⟨V4, y4, rfl, v4, r4, b4⟩
  have B4 := bt B3 b4
  go_wp2_with fail
  refine (InP _ _ w4 _ _ (by decide) (by decide) (HT.out.below B4) (by unfold Ch.plain; decide) tokE treE).mono ?_
  rintro e w5 ⟨V5, y5, rfl, v5, r5, b5⟩
  have B5 := bt B4 b5
  have s1 := v1.below (bt b2 (bt b3 (bt b4 b5)))
  have s2 := v2.below (bt b3 (bt b4 b5))
  have s3 := v3.below (bt b4 b5)
  have s4 := v4.below b5
  have S1 := Lib.hid s1; have S2 := Lib.hid s2; have S3 := Lib.hid s3; have S4 := Lib.hid s4; have S5 := Lib.hid v5; have BB5 := Lib.hid B5
  have R1 := Lib.hid r1; have R2 := Lib.hid r2; have R3 := Lib.hid r3; have R4 := Lib.hid r4; have R5 := Lib.hid r5
  clear v1 v2 v3 v4 v5 s1 s2 s3 s4 b1 b2 b3 b4 b5 B2 B3 B4 B5 r1 r2 r3 r4 r5
  go_wp2_with fail
  refine (el_any _ _ w5).mono ?_
  rintro e w6 ⟨rfl, b⟩
  have HB := Lib.hid b; clear b
  go_wp2_with fail
  refine (text_any _ _ w6).mono ?_
  rintro e w7 ⟨rfl, b⟩
  replace HB := Lib.hid (bt HB.out b); clear b
  go_wp2_with fail
  refine (el_any _ _ w7).mono ?_
  rintro e w8 ⟨rfl, b⟩
  replace HB := Lib.hid (bt HB.out b); clear b
  go_wp2_with fail
  refine (text_any _ _ w8).mono ?_
  rintro e w9 ⟨rfl, b⟩
  replace HB := Lib.hid (bt HB.out b); clear b
  go_wp2_with fail
  refine (sameR w9 V1 y1 [rE 0 [112], rT 1 [97], rE 0 [112], rT 1 [98]] _ 4 (S1.out.below HB.out) (len_of R1.out (by decide)) (by decide) (by decide) (no_attrs (by decide)) (held_of (by decide)) (by rfl) true (by rw [R1.out]; simp)).mono ?_
  rintro e w10 ⟨rfl, b⟩
  replace HB := Lib.hid (bt HB.out b); clear b
  go_wp2_with fail
  refine (el_any _ _ w10).mono ?_
  rintro e w11 ⟨rfl, b⟩
  replace HB := Lib.hid (bt HB.out b); clear b
  go_wp2_with fail
  refine (el_any _ _ w11).mono ?_
  rintro e w12 ⟨rfl, b⟩
  replace HB := Lib.hid (bt HB.out b); clear b
  go_wp2_with fail
  refine (text_any _ _ w12).mono ?_
  rintro e w13 ⟨rfl, b⟩
  replace HB := Lib.hid (bt HB.out b); clear b
  go_wp2_with fail
  refine (el_any _ _ w13).mono ?_
  rintro e w14 ⟨rfl, b⟩
  replace HB := Lib.hid (bt HB.out b); clear b
  go_wp2_with fail
  refine (text_any _ _ w14).mono ?_
  rintro e w15 ⟨rfl, b⟩
  replace HB := Lib.hid (bt HB.out b); clear b
  go_wp2_with fail
  refine (text_any _ _ w15).mono ?_
  rintro e w16 ⟨rfl, b⟩
  replace HB := Lib.hid (bt HB.out b); clear b
  go_wp2_with fail
  refine (sameR w16 V2 y2 [rE 0 [117, 108], rE 1 [108, 105], rT 2 [97], rE 1 [108, 105], rT 2 [98], rT 0 [99]] _ 6 (S2.out.below HB.out) (len_of R2.out (by decide)) (by decide) (by decide) (no_attrs (by decide)) (held_of (by decide)) (by rfl) true (by rw [R2.out]; simp)).mono ?_
  rintro e w17 ⟨rfl, b⟩
  replace HB := Lib.hid (bt HB.out b); clear b
  go_wp2_with fail
  refine (el_any _ _ w17).mono ?_
  rintro e w18 ⟨rfl, b⟩
  replace HB := Lib.hid (bt HB.out b); clear b
  go_wp2_with fail
  refine (sameR w18 V3 y3 [rE 0 [112]] _ 1 (S3.out.below HB.out) (len_of R3.out (by decide)) (by decide) (by decide) (no_attrs (by decide)) (held_of (by decide)) (by rfl) true (by rw [R3.out]; simp)).mono ?_
  rintro e w19 ⟨rfl, b⟩
  replace HB := Lib.hid (bt HB.out b); clear b
  go_wp2_with fail
  refine (text_any _ _ w19).mono ?_
  rintro e w20 ⟨rfl, b⟩
  replace HB := Lib.hid (bt HB.out b); clear b
  go_wp2_with fail
  refine (sameR w20 V4 y4 [rT 0 [97, 99]] _ 1 (S4.out.below HB.out) (len_of R4.out (by decide)) (by decide) (by decide) (no_attrs (by decide)) (held_of (by decide)) (by rfl) true (by rw [R4.out]; simp)).mono ?_
  rintro e w21 ⟨rfl, b⟩
  replace HB := Lib.hid (bt HB.out b); clear b
  go_wp2_with fail
  refine (text_any _ _ w21).mono ?_
  rintro e w22 ⟨rfl, b⟩
  replace HB := Lib.hid (bt HB.out b); clear b
  go_wp2_with fail
  refine (sameR w22 V5 y5 [rT 0 [97, 60, 98, 62]] _ 1 (S5.out.below HB.out) (len_of R5.out (by decide)) (by decide) (by decide) (no_attrs (by decide)) (held_of (by decide)) (by rfl) true (by rw [R5.out]; simp)).mono ?_
  rintro e w23 ⟨rfl, b⟩
  replace HB := Lib.hid (bt HB.out b); clear b
  go_wp2_with fail
  refine (nestedLit n_p w23 [n_p, ⟨#[98]⟩] 2 rfl false nesA (by decide)).mono ?_
  rintro e w24 ⟨rfl, b⟩
  replace HB := Lib.hid (bt HB.out b); clear b
  go_wp2_with fail
  refine (nestedLit n_p w24 [n_p, n_td] 2 rfl true nesB (by decide)).mono ?_
  rintro e w25 ⟨rfl, b⟩
  replace HB := Lib.hid (bt HB.out b); clear b
  go_wp2
  go_ret
  exact ⟨rfl, bt BB5.out HB.out⟩

end Go.Proofs.YtoijeljjehjfjaaDoor.Bu

namespace Go.Proofs.YtoijeljjehjfjaaDoor.Bu
set_option maxRecDepth 100000
set_option linter.unusedVariables false
set_option linter.unusedSimpArgs false
open Go.RowKit Ba Fm Fo Nm Bm
open Re (Tab)
theorem sv_take {w : World} {N : Nat} {A : Option Addr} {c : Nat} {l : List ByteArray} {k : Nat} (hc : l.length ≤ c) (hA : A = none → c = 0) (hr : Rd w N A l) (hk : k ≤ l.length) : Sv w N (.slice A k c) (l.take k) := by
  have hl : (l.take k).length = k := by rw [List.length_take]; omega
  exact ⟨A, c, by rw [hl], by rw [hl]; omega, hA, hr.take k⟩
theorem sv_drop {w : World} {N : Nat} {A : Option Addr} {n c : Nat} {l : List ByteArray} {k : Nat} (h : Sv w N (.slice A n c) l) (hk : k ≤ n) :
    Sv w N (.slice (if c = k then A else A.map (·.add k)) (n - k) (c - k)) (l.drop k) := by
  obtain ⟨A', c', e, h1, h2, h3⟩ := h
  injection e with e1 e2 e3
  subst e1 e2 e3
  refine ⟨_, c - k, by rw [List.length_drop], by rw [List.length_drop]; omega, fun e => ?_, h3.drop k c h1⟩
  split at e
  · have := h2 e; omega
  · cases A with
    | none => have := h2 rfl; omega
    | some a => cases e

set_option maxRecDepth 100000 in
set_option maxHeartbeats 2000000 in
theorem law_below (n : ByteArray) (V : Value) (l : List ByteArray) (w : World) (h : Sv w w.heap.size V l) (hml : l.length ≤ maxLen) (hT : Tab w) :
    Calls Tryd.prog 9 #[.string n, V] w fun e w' => e = .returned (.bool true) ∧ Below w.heap.size w w' := by
  obtain ⟨A, c, rfl, hc, hA, hr⟩ := h
  unfold maxLen at hml
  obtain ⟨m, hm⟩ : ∃ m, min l.length 30 = m := ⟨_, rfl⟩
  have hm1 : m ≤ l.length := by omega
  have hm30 : m ≤ 30 := by omega
  have hmin : min (l.length : Int) 30 = (m : Int) := by omega
  have hs := sv_take hc hA hr hm1
  obtain ⟨o, ho⟩ : ∃ o, l.take m = o := ⟨_, rfl⟩
  have hol : o.length = m := by rw [← ho, List.length_take]; omega
  rw [ho] at hs
  have hmc : (m : Int) ≤ (c : Int) := by omega
  have hm0 : (0 : Int) ≤ (m : Int) := by omega
  obtain ⟨q, hq⟩ : ∃ q, nestedB n o = q := ⟨_, rfl⟩
  have HT := Lib.hid hT; have HS := Lib.hid hs; have HQ := Lib.hid hq; have HOL := Lib.hid hol; have HM := Lib.hid hm
  clear hT hs hr ho hol hq hm hmin
  go_enter Tryd.func9, Tryd.ntmps9
  go_upto_region 1 with (fail)
  go_cut [1] from 7 to 11 (fun s1 wx => s1 = .slice A m c ∧ wx = w)
  case first =>
    go_wp2
    all_goals go_meet
    all_goals exact ⟨by rw [← HM.out]; congr 1; omega, rfl⟩
  case rest =>
  obtain ⟨rfl, rfl⟩ := hcut
  rename World => w0
  have hm100 : o.length ≤ 1000000 := by rw [HOL.out]; omega
  go_wp2_with fail
  refine (nested_any n _ o w0 hm100 HS.out q HQ.out).mono ?_
  rintro e w1 ⟨rfl, b1⟩
  have hs1 := Sv.up HS.out b1
  have HS1 := Lib.hid hs1; have HB1 := Lib.hid b1; have HT1 := Lib.hid (HT.out.below b1)
  clear hs1 b1
  cases q with
  | true =>
    go_wp2
    go_loopw [6] (fun i wr => ∃ k : Nat, i = .int .i64 k ∧ k ≤ m + 1 ∧ Below w1.heap.size w1 wr) (fun i _ => m + 1 - (intOf i).toNat)
    case atStart => exact ⟨0, rfl, Nat.zero_le _, Below.refl _ _⟩
    case round =>
      obtain ⟨k, rfl, hk, hb⟩ := hrel
      by_cases hp : k ≤ m
      · have hsk := sv_drop (k := k) (Sv.up HS1.out hb) hp
        have hqk := nestedB_drop k HQ.out
        have hcm : m ≤ c := by omega
        rcases Nat.lt_or_ge k c with hkc | hkc
        · have hne : ¬ c = k := by omega
          rw [if_neg hne] at hsk
          have hlk : (o.drop k).length ≤ 1000000 := by rw [List.length_drop]; omega
          have HSK := Lib.hid hsk; have HQK := Lib.hid hqk; have HB := Lib.hid hb
          clear hsk hqk hb hcm hkc
          have hk0 : (0 : Int) ≤ (k : Int) := by omega
          have hk1 : (k : Int) ≤ (m : Int) := by omega
          go_wp2_with fail
          refine (nested_any n _ (o.drop k) wr hlk HSK.out true HQK.out).mono ?_
          rintro e w3 ⟨rfl, b3⟩
          have HB3 := Lib.hid (bt HB.out b3)
          clear b3
          go_wp2
          go_roundw
          case rel => exact ⟨k + 1, by go_num, by omega, HB3.out⟩
          case measure => simp [intOf]; omega
        · obtain rfl : k = c := by omega
          rw [if_pos rfl, Nat.sub_self] at hsk
          have hlk : (o.drop k).length ≤ 1000000 := by rw [List.length_drop]; omega
          have HSK := Lib.hid hsk; have HQK := Lib.hid hqk; have HB := Lib.hid hb
          clear hsk hqk hb hcm hkc
          have hk0 : (0 : Int) ≤ (k : Int) := by omega
          have hk1 : (k : Int) ≤ (m : Int) := by omega
          go_wp2_with fail
          refine (nested_any n _ (o.drop k) wr hlk HSK.out true HQK.out).mono ?_
          rintro e w3 ⟨rfl, b3⟩
          have HB3 := Lib.hid (bt HB.out b3)
          clear b3
          go_wp2
          go_roundw
          case rel => exact ⟨k + 1, by go_num, by omega, HB3.out⟩
          case measure => simp [intOf]; omega
      · have HB := Lib.hid (bt HB1.out hb); have HTW := Lib.hid (HT1.out.below hb)
        clear hb
        go_wp2_with fail
        refine (nested_any n _ [] wr (by simp) ⟨none, 0, rfl, Nat.le_refl _, fun _ => rfl, Rd.nil _ _ _⟩ true (nestedB_nil n)).mono ?_
        rintro e w3 ⟨rfl, b3⟩
        go_wp2_with fail
        refine (fixed_any w3 (HTW.out.below b3)).mono ?_
        rintro e w4 ⟨rfl, b4⟩
        have HB4 := Lib.hid (bt (bt HB.out b3) b4)
        clear b3 b4
        go_wp2
        go_ret
        exact ⟨rfl, HB4.out⟩
  | false =>
    go_wp2
    go_loop [6] (fun i => ∃ k : Nat, i = .int .i64 k ∧ k ≤ m + 1) (fun i => m + 1 - (intOf i).toNat)
    case atStart => exact ⟨0, rfl, Nat.zero_le _⟩
    case round =>
      obtain ⟨k, rfl, hk⟩ := hrel
      by_cases hp : k ≤ m
      · go_wp2
        go_round
        case rel => exact ⟨k + 1, by go_num, by omega⟩
        case measure => simp [intOf]; omega
      · go_wp2_with fail
        refine (nested_any n _ [] w1 (by simp) ⟨none, 0, rfl, Nat.le_refl _, fun _ => rfl, Rd.nil _ _ _⟩ true (nestedB_nil n)).mono ?_
        rintro e w3 ⟨rfl, b3⟩
        go_wp2_with fail
        refine (fixed_any w3 (HT1.out.below b3)).mono ?_
        rintro e w4 ⟨rfl, b4⟩
        have HB4 := Lib.hid (bt (bt HB1.out b3) b4)
        clear b3 b4
        go_wp2
        go_ret
        exact ⟨rfl, HB4.out⟩

end Go.Proofs.YtoijeljjehjfjaaDoor.Bu

namespace Go.Proofs.YtoijeljjehjfjaaDoor.Fo
set_option maxRecDepth 100000
set_option linter.unusedSimpArgs false
set_option linter.unusedVariables false
open Go.RowKit Ba Go.ChangeShapes Go.WideShapes Go.ChangeAt
theorem cells_str : Tryd.prog.cellsOf 9 = 1 := by kernel_rfl
theorem laidOut : laidOutB Tryd.prog = true := by kernel_rfl

theorem open_sv {H : Type} {enc : TypeId × Value → H} {W : World} {base : Nat} {v : Value} {d : DataW H} {p : List MemPlace} (hv : Value.okWide Tryd.prog W .any base 36 v)
    (h : ∃ fuel, DataW.trod enc Tryd.prog W 0 (fun _ => true) true fuel 36 v.cells.toList = some (d, p)) (hlt : ∀ x ∈ p, x.block < W.heap.size) : ∃ l, Sv W W.heap.size v l ∧ l.length ≤ maxLen := by
  obtain ⟨a0, len, cap, rfl⟩ := okWide_slice Tryd.underlying36 hv
  obtain ⟨fuel, hf⟩ := h
  rcases open_strings Tryd.underlying36 Tryd.underlying9 cells_str hf with ⟨hcs, hx⟩ | ⟨a, len', cap', ss, hcs, _, hl, hm, hz, hx, hcell, hws⟩
  · simp [Value.cells] at hcs
    obtain ⟨rfl, rfl, rfl⟩ := hcs
    exact ⟨[], ⟨none, 0, rfl, Nat.le_refl _, fun _ => rfl, Rd.nil _ _ _⟩, Nat.zero_le _⟩
  · simp [Value.cells] at hcs
    obtain ⟨rfl, rfl, rfl⟩ := hcs
    simp only [Prod.mk.injEq] at hx
    obtain ⟨rfl, rfl⟩ := hx
    simp only [if_true] at hz
    have hlen : (ss.take len).length = len := by rw [List.length_take]; omega
    refine ⟨ss.take len, ⟨some a, cap, by rw [hlen], by rw [hlen]; exact hl, (fun e => by cases e), fun h0 => ?_⟩, by rw [hlen]; omega⟩
    rw [hlen] at h0
    obtain ⟨b, off, spot⟩ := a
    have hspot : spot = none := by simpa [Addr.add] using World.cell?_spot (hcell 0 (by omega))
    subst hspot
    have hbW : b < W.heap.size := hlt (.cell b off) (MemPlace.mem_row.2 ⟨0, by omega, by simp⟩)
    refine ⟨b, off, rfl, hbW, fun j hj => ?_⟩
    rw [hlen] at hj
    have := hcell j (by omega)
    rw [add_plain] at this
    rw [this, List.getElem_take]
    congr 2
    rw [List.getD_eq_getElem?_getD, List.getElem?_eq_getElem (by omega)]
    rfl

end Go.Proofs.YtoijeljjehjfjaaDoor.Fo

namespace Go.Proofs.YtoijeljjehjfjaaDoor.Na
set_option maxRecDepth 100000
set_option linter.unusedSimpArgs false
set_option linter.unusedVariables false
open Go.RowKit Ba Fm Fo Nm
set_option maxRecDepth 100000 in
set_option maxHeartbeats 4000000 in
theorem refCloses_any (s : ByteArray) (w : World) : Calls Tryd.prog 56 #[.string s] w fun e w' => ∃ v, e = .returned v ∧ Sown w.heap.size w' v (closesL s) ∧ Below w.heap.size w w' := by
  by_cases h0 : s = n_li
  · obtain ⟨⟨f0, f1, f2, f3, f4, f5, f6, f7, f8, f9, f10⟩, hcl, hwl, htb, hbl⟩ := own_li h0
    rw [hcl]
    have hb := below_one w (.cells ([n_li].map sc).toArray 9)
    have hs := sown_lit w [n_li] (by decide)
    have HX := Lib.hid h0; have HTB := Lib.hid htb
    clear h0 hcl hwl htb hbl
    go_enter Tryd.func56, Tryd.ntmps56
    rw [← HX.out] at hs hb
    rw [← HX.out]
    go_wp2
    go_ret
    exact ⟨_, rfl, hs, hb⟩
  by_cases h1 : s = n_dd
  · obtain ⟨⟨f0, f1, f2, f3, f4, f5, f6, f7, f8, f9, f10⟩, hcl, hwl, htb, hbl⟩ := own_dd h1
    rw [hcl]
    have hb := below_one w (.cells ([n_dd, n_dt].map sc).toArray 9)
    have hs := sown_lit w [n_dd, n_dt] (by decide)
    have HX := Lib.hid h1; have HTB := Lib.hid htb
    clear h0 h1 hcl hwl htb hbl
    go_enter Tryd.func56, Tryd.ntmps56
    go_wp2
    go_ret
    exact ⟨_, rfl, hs, hb⟩
  by_cases h2 : s = n_dt
  · obtain ⟨⟨f0, f1, f2, f3, f4, f5, f6, f7, f8, f9, f10⟩, hcl, hwl, htb, hbl⟩ := own_dt h2
    rw [hcl]
    have hb := below_one w (.cells ([n_dd, n_dt].map sc).toArray 9)
    have hs := sown_lit w [n_dd, n_dt] (by decide)
    have HX := Lib.hid h2; have HTB := Lib.hid htb
    clear h0 h1 h2 hcl hwl htb hbl
    go_enter Tryd.func56, Tryd.ntmps56
    go_wp2
    go_ret
    exact ⟨_, rfl, hs, hb⟩
  by_cases h3 : s = n_option
  · obtain ⟨⟨f0, f1, f2, f3, f4, f5, f6, f7, f8, f9, f10⟩, hcl, hwl, htb, hbl⟩ := own_option h3
    rw [hcl]
    have hb := below_one w (.cells ([n_option].map sc).toArray 9)
    have hs := sown_lit w [n_option] (by decide)
    have HX := Lib.hid h3; have HTB := Lib.hid htb
    clear h0 h1 h2 h3 hcl hwl htb hbl
    go_enter Tryd.func56, Tryd.ntmps56
    rw [← HX.out] at hs hb
    rw [← HX.out]
    go_wp2
    go_ret
    exact ⟨_, rfl, hs, hb⟩
  by_cases h4 : s = n_optgroup
  · obtain ⟨⟨f0, f1, f2, f3, f4, f5, f6, f7, f8, f9, f10⟩, hcl, hwl, htb, hbl⟩ := own_optgroup h4
    rw [hcl]
    have hb := below_one w (.cells ([n_optgroup, n_option].map sc).toArray 9)
    have hs := sown_lit w [n_optgroup, n_option] (by decide)
    have HX := Lib.hid h4; have HTB := Lib.hid htb
    clear h0 h1 h2 h3 h4 hcl hwl htb hbl
    go_enter Tryd.func56, Tryd.ntmps56
    go_wp2
    go_ret
    exact ⟨_, rfl, hs, hb⟩
  by_cases h5 : s = n_tr
  · obtain ⟨⟨f0, f1, f2, f3, f4, f5, f6, f7, f8, f9, f10⟩, hcl, hwl, htb, hbl⟩ := own_tr h5
    rw [hcl]
    have hb := below_one w (.cells ([n_td, n_th, n_tr].map sc).toArray 9)
    have hs := sown_lit w [n_td, n_th, n_tr] (by decide)
    have HX := Lib.hid h5; have HTB := Lib.hid htb
    clear h0 h1 h2 h3 h4 h5 hcl hwl htb hbl
    go_enter Tryd.func56, Tryd.ntmps56
    go_wp2
    go_ret
    exact ⟨_, rfl, hs, hb⟩
  by_cases h6 : s = n_td
  · obtain ⟨⟨f0, f1, f2, f3, f4, f5, f6, f7, f8, f9, f10⟩, hcl, hwl, htb, hbl⟩ := own_td h6
    rw [hcl]
    have hb := below_one w (.cells ([n_td, n_th].map sc).toArray 9)
    have hs := sown_lit w [n_td, n_th] (by decide)
    have HX := Lib.hid h6; have HTB := Lib.hid htb
    clear h0 h1 h2 h3 h4 h5 h6 hcl hwl htb hbl
    go_enter Tryd.func56, Tryd.ntmps56
    go_wp2
    go_ret
    exact ⟨_, rfl, hs, hb⟩
  by_cases h7 : s = n_th
  · obtain ⟨⟨f0, f1, f2, f3, f4, f5, f6, f7, f8, f9, f10⟩, hcl, hwl, htb, hbl⟩ := own_th h7
    rw [hcl]
    have hb := below_one w (.cells ([n_td, n_th].map sc).toArray 9)
    have hs := sown_lit w [n_td, n_th] (by decide)
    have HX := Lib.hid h7; have HTB := Lib.hid htb
    clear h0 h1 h2 h3 h4 h5 h6 h7 hcl hwl htb hbl
    go_enter Tryd.func56, Tryd.ntmps56
    go_wp2
    go_ret
    exact ⟨_, rfl, hs, hb⟩
  by_cases h8 : s = n_tbody
  · obtain ⟨⟨f0, f1, f2, f3, f4, f5, f6, f7, f8, f9, f10⟩, hcl, hwl, htb, hbl⟩ := own_tbody h8
    rw [hcl]
    have hb := below_one w (.cells ([n_tbody, n_td, n_tfoot, n_th, n_thead, n_tr].map sc).toArray 9)
    have hs := sown_lit w [n_tbody, n_td, n_tfoot, n_th, n_thead, n_tr] (by decide)
    have HX := Lib.hid h8; have HTB := Lib.hid htb
    clear h0 h1 h2 h3 h4 h5 h6 h7 h8 hcl hwl htb hbl
    go_enter Tryd.func56, Tryd.ntmps56
    go_wp2_with fail
    refine (refTable_any w).mono ?_
    rintro e w1 ⟨v1, rfl, ho1, hb1⟩
    go_wp2_with fail
    refine (hasS w1 v1 tableL s (sv_own ho1) (by decide)).mono ?_
    rintro e w2 ⟨rfl, rfl⟩
    rw [HTB.out]
    go_wp2_with fail
    refine (refTable_any w1).mono ?_
    rintro e w2 ⟨v2, rfl, ho2, hb2⟩
    go_wp2
    go_ret
    exact ⟨v2, rfl, ho2.mono hb1.size, bt hb1 hb2⟩
  by_cases h9 : s = n_tfoot
  · obtain ⟨⟨f0, f1, f2, f3, f4, f5, f6, f7, f8, f9, f10⟩, hcl, hwl, htb, hbl⟩ := own_tfoot h9
    rw [hcl]
    have hb := below_one w (.cells ([n_tbody, n_td, n_tfoot, n_th, n_thead, n_tr].map sc).toArray 9)
    have hs := sown_lit w [n_tbody, n_td, n_tfoot, n_th, n_thead, n_tr] (by decide)
    have HX := Lib.hid h9; have HTB := Lib.hid htb
    clear h0 h1 h2 h3 h4 h5 h6 h7 h8 h9 hcl hwl htb hbl
    go_enter Tryd.func56, Tryd.ntmps56
    go_wp2_with fail
    refine (refTable_any w).mono ?_
    rintro e w1 ⟨v1, rfl, ho1, hb1⟩
    go_wp2_with fail
    refine (hasS w1 v1 tableL s (sv_own ho1) (by decide)).mono ?_
    rintro e w2 ⟨rfl, rfl⟩
    rw [HTB.out]
    go_wp2_with fail
    refine (refTable_any w1).mono ?_
    rintro e w2 ⟨v2, rfl, ho2, hb2⟩
    go_wp2
    go_ret
    exact ⟨v2, rfl, ho2.mono hb1.size, bt hb1 hb2⟩
  by_cases h10 : s = n_thead
  · obtain ⟨⟨f0, f1, f2, f3, f4, f5, f6, f7, f8, f9, f10⟩, hcl, hwl, htb, hbl⟩ := own_thead h10
    rw [hcl]
    have hb := below_one w (.cells ([n_tbody, n_td, n_tfoot, n_th, n_thead, n_tr].map sc).toArray 9)
    have hs := sown_lit w [n_tbody, n_td, n_tfoot, n_th, n_thead, n_tr] (by decide)
    have HX := Lib.hid h10; have HTB := Lib.hid htb
    clear h0 h1 h2 h3 h4 h5 h6 h7 h8 h9 h10 hcl hwl htb hbl
    go_enter Tryd.func56, Tryd.ntmps56
    go_wp2_with fail
    refine (refTable_any w).mono ?_
    rintro e w1 ⟨v1, rfl, ho1, hb1⟩
    go_wp2_with fail
    refine (hasS w1 v1 tableL s (sv_own ho1) (by decide)).mono ?_
    rintro e w2 ⟨rfl, rfl⟩
    rw [HTB.out]
    go_wp2_with fail
    refine (refTable_any w1).mono ?_
    rintro e w2 ⟨v2, rfl, ho2, hb2⟩
    go_wp2
    go_ret
    exact ⟨v2, rfl, ho2.mono hb1.size, bt hb1 hb2⟩
  obtain ⟨⟨f0, f1, f2, f3, f4, f5, f6, f7, f8, f9, f10⟩, hcl, hwl, htb⟩ := own_none h0 h1 h2 h3 h4 h5 h6 h7 h8 h9 h10
  clear h0 h1 h2 h3 h4 h5 h6 h7 h8 h9 h10
  rw [hcl]
  have HTB := Lib.hid htb
  clear htb
  clear hcl hwl
  obtain ⟨q, hq⟩ : ∃ q, isIn s blockL = q := ⟨_, rfl⟩
  rw [hq]
  have HQ := Lib.hid hq
  clear hq
  cases q with
  | true =>
    rw [if_pos rfl]
    go_enter Tryd.func56, Tryd.ntmps56
    go_wp2_with fail
    refine (refTable_any w).mono ?_
    rintro e w1 ⟨v1, rfl, ho1, hb1⟩
    go_wp2_with fail
    refine (hasS w1 v1 tableL s (sv_own ho1) (by decide)).mono ?_
    rintro e w2 ⟨rfl, rfl⟩
    rw [HTB.out]
    go_wp2_with fail
    refine (refBlock_any w1).mono ?_
    rintro e w2 ⟨v2, rfl, ho2, hb2⟩
    go_wp2_with fail
    refine (hasS w2 v2 blockL s (sv_own ho2) (by decide)).mono ?_
    rintro e w3 ⟨rfl, rfl⟩
    rw [HQ.out]
    have hb12 := bt hb1 hb2
    have hb3 := below_one w2 (.cells ([n_p].map sc).toArray 9)
    have hs3 := sown_lit w2 [n_p] (by decide)
    go_wp2
    go_ret
    exact ⟨_, rfl, hs3.mono hb12.size, bt hb12 hb3⟩
    | false =>
    rw [if_neg (by decide)]
    go_enter Tryd.func56, Tryd.ntmps56
    go_wp2_with fail
    refine (refTable_any w).mono ?_
    rintro e w1 ⟨v1, rfl, ho1, hb1⟩
    go_wp2_with fail
    refine (hasS w1 v1 tableL s (sv_own ho1) (by decide)).mono ?_
    rintro e w2 ⟨rfl, rfl⟩
    rw [HTB.out]
    go_wp2_with fail
    refine (refBlock_any w1).mono ?_
    rintro e w2 ⟨v2, rfl, ho2, hb2⟩
    go_wp2_with fail
    refine (hasS w2 v2 blockL s (sv_own ho2) (by decide)).mono ?_
    rintro e w3 ⟨rfl, rfl⟩
    rw [HQ.out]
    have hb12 := bt hb1 hb2
    have hb3 := below_one w2 (.cells (([] : List ByteArray).map sc).toArray 9)
    have hs3 := sown_lit w2 [] (by decide)
    go_wp2
    go_ret
    exact ⟨_, rfl, hs3.mono hb12.size, bt hb12 hb3⟩

end Go.Proofs.YtoijeljjehjfjaaDoor.Na

namespace Go.Proofs.YtoijeljjehjfjaaDoor.Na
set_option maxRecDepth 100000
set_option linter.unusedSimpArgs false
set_option linter.unusedVariables false
open Go.RowKit Ba Fm Fo Nm
set_option maxRecDepth 100000 in
set_option maxHeartbeats 4000000 in
theorem refWalls_any (s : ByteArray) (w : World) : Calls Tryd.prog 57 #[.string s] w fun e w' => ∃ v, e = .returned v ∧ Sown w.heap.size w' v (wallsL s) ∧ Below w.heap.size w w' := by
  by_cases h0 : s = n_li
  · obtain ⟨⟨f0, f1, f2, f3, f4, f5, f6, f7, f8, f9, f10⟩, hcl, hwl, htb, hbl⟩ := own_li h0
    rw [hwl]
    have hb := below_one w (.cells ([n_menu, n_ol, n_template, n_ul].map sc).toArray 9)
    have hs := sown_lit w [n_menu, n_ol, n_template, n_ul] (by decide)
    have HX := Lib.hid h0; have HTB := Lib.hid htb
    clear h0 hcl hwl htb hbl
    go_enter Tryd.func57, Tryd.ntmps57
    go_wp2
    go_ret
    exact ⟨_, rfl, hs, hb⟩
  by_cases h1 : s = n_dd
  · obtain ⟨⟨f0, f1, f2, f3, f4, f5, f6, f7, f8, f9, f10⟩, hcl, hwl, htb, hbl⟩ := own_dd h1
    rw [hwl]
    have hb := below_one w (.cells ([n_dl, n_template].map sc).toArray 9)
    have hs := sown_lit w [n_dl, n_template] (by decide)
    have HX := Lib.hid h1; have HTB := Lib.hid htb
    clear h0 h1 hcl hwl htb hbl
    go_enter Tryd.func57, Tryd.ntmps57
    go_wp2
    go_ret
    exact ⟨_, rfl, hs, hb⟩
  by_cases h2 : s = n_dt
  · obtain ⟨⟨f0, f1, f2, f3, f4, f5, f6, f7, f8, f9, f10⟩, hcl, hwl, htb, hbl⟩ := own_dt h2
    rw [hwl]
    have hb := below_one w (.cells ([n_dl, n_template].map sc).toArray 9)
    have hs := sown_lit w [n_dl, n_template] (by decide)
    have HX := Lib.hid h2; have HTB := Lib.hid htb
    clear h0 h1 h2 hcl hwl htb hbl
    go_enter Tryd.func57, Tryd.ntmps57
    go_wp2
    go_ret
    exact ⟨_, rfl, hs, hb⟩
  by_cases h3 : s = n_option
  · obtain ⟨⟨f0, f1, f2, f3, f4, f5, f6, f7, f8, f9, f10⟩, hcl, hwl, htb, hbl⟩ := own_option h3
    rw [hwl]
    have hb := below_one w (.cells ([n_select, n_template].map sc).toArray 9)
    have hs := sown_lit w [n_select, n_template] (by decide)
    have HX := Lib.hid h3; have HTB := Lib.hid htb
    clear h0 h1 h2 h3 hcl hwl htb hbl
    go_enter Tryd.func57, Tryd.ntmps57
    go_wp2
    go_ret
    exact ⟨_, rfl, hs, hb⟩
  by_cases h4 : s = n_optgroup
  · obtain ⟨⟨f0, f1, f2, f3, f4, f5, f6, f7, f8, f9, f10⟩, hcl, hwl, htb, hbl⟩ := own_optgroup h4
    rw [hwl]
    have hb := below_one w (.cells ([n_select, n_template].map sc).toArray 9)
    have hs := sown_lit w [n_select, n_template] (by decide)
    have HX := Lib.hid h4; have HTB := Lib.hid htb
    clear h0 h1 h2 h3 h4 hcl hwl htb hbl
    go_enter Tryd.func57, Tryd.ntmps57
    go_wp2
    go_ret
    exact ⟨_, rfl, hs, hb⟩
  by_cases h5 : s = n_tr
  · obtain ⟨⟨f0, f1, f2, f3, f4, f5, f6, f7, f8, f9, f10⟩, hcl, hwl, htb, hbl⟩ := own_tr h5
    rw [hwl]
    have hb := below_one w (.cells ([n_table, n_template].map sc).toArray 9)
    have hs := sown_lit w [n_table, n_template] (by decide)
    have HX := Lib.hid h5; have HTB := Lib.hid htb
    clear h0 h1 h2 h3 h4 h5 hcl hwl htb hbl
    go_enter Tryd.func57, Tryd.ntmps57
    go_wp2_with fail
    refine (refTable_any w).mono ?_
    rintro e w1 ⟨v1, rfl, ho1, hb1⟩
    go_wp2_with fail
    refine (hasS w1 v1 tableL s (sv_own ho1) (by decide)).mono ?_
    rintro e w2 ⟨rfl, rfl⟩
    rw [HTB.out]
    have hb3 := below_one w1 (.cells ([n_table, n_template].map sc).toArray 9)
    have hs3 := sown_lit w1 [n_table, n_template] (by decide)
    go_wp2
    go_ret
    exact ⟨_, rfl, hs3.mono hb1.size, bt hb1 hb3⟩
  by_cases h6 : s = n_td
  · obtain ⟨⟨f0, f1, f2, f3, f4, f5, f6, f7, f8, f9, f10⟩, hcl, hwl, htb, hbl⟩ := own_td h6
    rw [hwl]
    have hb := below_one w (.cells ([n_table, n_template].map sc).toArray 9)
    have hs := sown_lit w [n_table, n_template] (by decide)
    have HX := Lib.hid h6; have HTB := Lib.hid htb
    clear h0 h1 h2 h3 h4 h5 h6 hcl hwl htb hbl
    go_enter Tryd.func57, Tryd.ntmps57
    go_wp2_with fail
    refine (refTable_any w).mono ?_
    rintro e w1 ⟨v1, rfl, ho1, hb1⟩
    go_wp2_with fail
    refine (hasS w1 v1 tableL s (sv_own ho1) (by decide)).mono ?_
    rintro e w2 ⟨rfl, rfl⟩
    rw [HTB.out]
    have hb3 := below_one w1 (.cells ([n_table, n_template].map sc).toArray 9)
    have hs3 := sown_lit w1 [n_table, n_template] (by decide)
    go_wp2
    go_ret
    exact ⟨_, rfl, hs3.mono hb1.size, bt hb1 hb3⟩
  by_cases h7 : s = n_th
  · obtain ⟨⟨f0, f1, f2, f3, f4, f5, f6, f7, f8, f9, f10⟩, hcl, hwl, htb, hbl⟩ := own_th h7
    rw [hwl]
    have hb := below_one w (.cells ([n_table, n_template].map sc).toArray 9)
    have hs := sown_lit w [n_table, n_template] (by decide)
    have HX := Lib.hid h7; have HTB := Lib.hid htb
    clear h0 h1 h2 h3 h4 h5 h6 h7 hcl hwl htb hbl
    go_enter Tryd.func57, Tryd.ntmps57
    go_wp2_with fail
    refine (refTable_any w).mono ?_
    rintro e w1 ⟨v1, rfl, ho1, hb1⟩
    go_wp2_with fail
    refine (hasS w1 v1 tableL s (sv_own ho1) (by decide)).mono ?_
    rintro e w2 ⟨rfl, rfl⟩
    rw [HTB.out]
    have hb3 := below_one w1 (.cells ([n_table, n_template].map sc).toArray 9)
    have hs3 := sown_lit w1 [n_table, n_template] (by decide)
    go_wp2
    go_ret
    exact ⟨_, rfl, hs3.mono hb1.size, bt hb1 hb3⟩
  by_cases h8 : s = n_tbody
  · obtain ⟨⟨f0, f1, f2, f3, f4, f5, f6, f7, f8, f9, f10⟩, hcl, hwl, htb, hbl⟩ := own_tbody h8
    rw [hwl]
    have hb := below_one w (.cells ([n_table, n_template].map sc).toArray 9)
    have hs := sown_lit w [n_table, n_template] (by decide)
    have HX := Lib.hid h8; have HTB := Lib.hid htb
    clear h0 h1 h2 h3 h4 h5 h6 h7 h8 hcl hwl htb hbl
    go_enter Tryd.func57, Tryd.ntmps57
    go_wp2_with fail
    refine (refTable_any w).mono ?_
    rintro e w1 ⟨v1, rfl, ho1, hb1⟩
    go_wp2_with fail
    refine (hasS w1 v1 tableL s (sv_own ho1) (by decide)).mono ?_
    rintro e w2 ⟨rfl, rfl⟩
    rw [HTB.out]
    have hb3 := below_one w1 (.cells ([n_table, n_template].map sc).toArray 9)
    have hs3 := sown_lit w1 [n_table, n_template] (by decide)
    go_wp2
    go_ret
    exact ⟨_, rfl, hs3.mono hb1.size, bt hb1 hb3⟩
  by_cases h9 : s = n_tfoot
  · obtain ⟨⟨f0, f1, f2, f3, f4, f5, f6, f7, f8, f9, f10⟩, hcl, hwl, htb, hbl⟩ := own_tfoot h9
    rw [hwl]
    have hb := below_one w (.cells ([n_table, n_template].map sc).toArray 9)
    have hs := sown_lit w [n_table, n_template] (by decide)
    have HX := Lib.hid h9; have HTB := Lib.hid htb
    clear h0 h1 h2 h3 h4 h5 h6 h7 h8 h9 hcl hwl htb hbl
    go_enter Tryd.func57, Tryd.ntmps57
    go_wp2_with fail
    refine (refTable_any w).mono ?_
    rintro e w1 ⟨v1, rfl, ho1, hb1⟩
    go_wp2_with fail
    refine (hasS w1 v1 tableL s (sv_own ho1) (by decide)).mono ?_
    rintro e w2 ⟨rfl, rfl⟩
    rw [HTB.out]
    have hb3 := below_one w1 (.cells ([n_table, n_template].map sc).toArray 9)
    have hs3 := sown_lit w1 [n_table, n_template] (by decide)
    go_wp2
    go_ret
    exact ⟨_, rfl, hs3.mono hb1.size, bt hb1 hb3⟩
  by_cases h10 : s = n_thead
  · obtain ⟨⟨f0, f1, f2, f3, f4, f5, f6, f7, f8, f9, f10⟩, hcl, hwl, htb, hbl⟩ := own_thead h10
    rw [hwl]
    have hb := below_one w (.cells ([n_table, n_template].map sc).toArray 9)
    have hs := sown_lit w [n_table, n_template] (by decide)
    have HX := Lib.hid h10; have HTB := Lib.hid htb
    clear h0 h1 h2 h3 h4 h5 h6 h7 h8 h9 h10 hcl hwl htb hbl
    go_enter Tryd.func57, Tryd.ntmps57
    go_wp2_with fail
    refine (refTable_any w).mono ?_
    rintro e w1 ⟨v1, rfl, ho1, hb1⟩
    go_wp2_with fail
    refine (hasS w1 v1 tableL s (sv_own ho1) (by decide)).mono ?_
    rintro e w2 ⟨rfl, rfl⟩
    rw [HTB.out]
    have hb3 := below_one w1 (.cells ([n_table, n_template].map sc).toArray 9)
    have hs3 := sown_lit w1 [n_table, n_template] (by decide)
    go_wp2
    go_ret
    exact ⟨_, rfl, hs3.mono hb1.size, bt hb1 hb3⟩
  obtain ⟨⟨f0, f1, f2, f3, f4, f5, f6, f7, f8, f9, f10⟩, hcl, hwl, htb⟩ := own_none h0 h1 h2 h3 h4 h5 h6 h7 h8 h9 h10
  clear h0 h1 h2 h3 h4 h5 h6 h7 h8 h9 h10
  rw [hwl]
  have HTB := Lib.hid htb
  clear htb
  clear hcl hwl
  go_enter Tryd.func57, Tryd.ntmps57
  go_wp2_with fail
  refine (refTable_any w).mono ?_
  rintro e w1 ⟨v1, rfl, ho1, hb1⟩
  go_wp2_with fail
  refine (hasS w1 v1 tableL s (sv_own ho1) (by decide)).mono ?_
  rintro e w2 ⟨rfl, rfl⟩
  rw [HTB.out]
  have hb3 := below_one w1 (.cells ([n_button, n_caption, n_table, n_td, n_template, n_th].map sc).toArray 9)
  have hs3 := sown_lit w1 [n_button, n_caption, n_table, n_td, n_template, n_th] (by decide)
  go_wp2
  go_ret
  exact ⟨_, rfl, hs3.mono hb1.size, bt hb1 hb3⟩

end Go.Proofs.YtoijeljjehjfjaaDoor.Na

namespace Go.Proofs.YtoijeljjehjfjaaDoor.Bu
set_option maxRecDepth 100000
set_option linter.unusedVariables false
set_option linter.unusedSimpArgs false
open Go.RowKit Ba Fm Fo Nm Bm
theorem Sv.up3 {w w' : World} {v : Value} {l : List ByteArray} (h : Sv w w.heap.size v l) (hb : Below w.heap.size w w') : Sv w' w'.heap.size v l := (h.below hb (Nat.le_refl _)).more hb.size
theorem refHas1 (V : Value) (l : List ByteArray) (s : ByteArray) (w : World) (h : Sv w w.heap.size V l) (hl : l.length ≤ 1000) (q : Bool) (hq : isIn s l = q) :
    Calls Tryd.prog 32 #[V, .string s] w fun e w' => e = .returned (.bool q) ∧ w = w' := by
  obtain ⟨A, c, rfl, _, _, hr⟩ := h
  subst hq
  exact has_any A c w.heap.size l s w hr (by omega)
theorem idx_hit {ns ws o : List ByteArray} {k : Nat} (hk : k < o.length) (h : isIn o[k] ns = true) : idx ns ws (o.take (k + 1)) = k := by
  unfold idx
  rw [found_hit (List.getElem?_eq_getElem hk) h]
  show ((o.take k).reverse.length : Int) = k
  rw [List.length_reverse, List.length_take]
  omega
theorem idx_wall {ns ws o : List ByteArray} {k : Nat} (hk : k < o.length) (h : isIn o[k] ns = false) (h' : isIn o[k] ws = true) : idx ns ws (o.take (k + 1)) = -1 := by
  unfold idx
  rw [found_wall (List.getElem?_eq_getElem hk) h h']
theorem idx_past {ns ws o : List ByteArray} {k : Nat} (hk : k < o.length) (h : isIn o[k] ns = false) (h' : isIn o[k] ws = false) : idx ns ws (o.take (k + 1)) = idx ns ws (o.take k) := by
  unfold idx
  rw [found_past (List.getElem?_eq_getElem hk) h h']

set_option maxRecDepth 100000 in
set_option maxHeartbeats 1000000 in
theorem refFound_any (A : Option Addr) (c : Nat) (V1 V2 : Value) (l ns ws : List ByteArray) (w : World) (hm : l.length ≤ 1000000) (hr : Rd w w.heap.size A l) (h1 : Sv w w.heap.size V1 ns) (h2 : Sv w w.heap.size V2 ws) (hn1 : ns.length ≤ 1000) (hn2 : ws.length ≤ 1000) :
    Calls Tryd.prog 60 #[.slice A l.length c, V1, V2] w fun e w' => e = .returned (.int .i64 (idx ns ws l)) ∧ w = w' := by
  obtain ⟨q, hq⟩ : ∃ q, idx ns ws l = q := ⟨_, rfl⟩
  rw [hq]
  have h0 : idx ns ws (l.take l.length) = q := by rw [List.take_length]; exact hq
  have HV1 := Lib.hid h1; have HV2 := Lib.hid h2; have H0 := Lib.hid h0
  clear h1 h2 hq h0
  go_enter Tryd.func60, Tryd.ntmps60
  go_wp2
  go_loop [7] (fun v => ∃ (k : Nat) (i : Int), v = .int .i64 i ∧ i + 1 = k ∧ k ≤ l.length ∧ idx ns ws (l.take k) = q) (fun v => (intOf v + 1).toNat)
  case atStart => exact ⟨l.length, _, rfl, by omega, Nat.le_refl _, H0.out⟩
  case round =>
    obtain ⟨k, i, rfl, hi, hk, hix⟩ := hrel
    by_cases hp : 0 < k
    · obtain ⟨m, rfl⟩ : ∃ m, k = m + 1 := ⟨k - 1, by omega⟩
      obtain rfl : i = (m : Int) := by omega
      have hml : m < l.length := by omega
      obtain ⟨b, off, rfl, hb, hc⟩ := hr (by omega)
      have hcell := hc m hml
      have hge : decide ((0 : Int) ≤ (m : Int)) = true := decide_eq_true (by omega)
      clear hr hc
      cases hx : isIn l[m] ns with
      | true =>
        rw [idx_hit hml hx] at hix
        have HIX := Lib.hid hix; have HX := Lib.hid hx
        clear hix hx
        go_wp2_with fail
        refine (refHas1 V1 ns _ w HV1.out hn1 true HX.out).mono ?_
        rintro e w1 ⟨rfl, rfl⟩
        go_wp2
        go_ret
        exact ⟨by rw [← HIX.out]; rfl, rfl⟩
      | false =>
      cases hy : isIn l[m] ws with
      | true =>
        rw [idx_wall hml hx hy] at hix
        have HIX := Lib.hid hix; have HX := Lib.hid hx; have HY := Lib.hid hy
        clear hix hx hy
        go_wp2_with fail
        refine (refHas1 V1 ns _ w HV1.out hn1 false HX.out).mono ?_
        rintro e w1 ⟨rfl, rfl⟩
        go_wp2_with fail
        refine (refHas1 V2 ws _ w HV2.out hn2 true HY.out).mono ?_
        rintro e w1 ⟨rfl, rfl⟩
        go_wp2
        go_ret
        exact ⟨by rw [← HIX.out]; rfl, rfl⟩
      | false =>
        rw [idx_past hml hx hy] at hix
        have HIX := Lib.hid hix; have HX := Lib.hid hx; have HY := Lib.hid hy
        clear hix hx hy
        go_wp2_with fail
        refine (refHas1 V1 ns _ w HV1.out hn1 false HX.out).mono ?_
        rintro e w1 ⟨rfl, rfl⟩
        go_wp2_with fail
        refine (refHas1 V2 ws _ w HV2.out hn2 false HY.out).mono ?_
        rintro e w1 ⟨rfl, rfl⟩
        go_wp2
        go_round
        case rel => exact ⟨m, _, rfl, by omega, by omega, HIX.out⟩
        case measure => simp [intOf]
    · obtain rfl : k = 0 := by omega
      obtain rfl : i = -1 := by omega
      have HIX := Lib.hid hix
      clear hix
      go_wp2
      go_ret
      exact ⟨by rw [← HIX.out]; rfl, rfl⟩

theorem refFound1 (V V1 V2 : Value) (l ns ws : List ByteArray) (w : World) (hm : l.length ≤ 1000000) (A : Option Addr) (c : Nat) (hV : V = .slice A l.length c) (hr : Rd w w.heap.size A l) (h1 : Sv w w.heap.size V1 ns) (h2 : Sv w w.heap.size V2 ws) (hn1 : ns.length ≤ 1000) (hn2 : ws.length ≤ 1000) (i : Int) (hi : idx ns ws l = i) :
    Calls Tryd.prog 60 #[V, V1, V2] w fun e w' => e = .returned (.int .i64 i) ∧ w = w' := by
  subst hV; subst hi
  exact refFound_any A c V1 V2 l ns ws w hm hr h1 h2 hn1 hn2

set_option maxRecDepth 100000 in
set_option maxHeartbeats 1000000 in
theorem refClosed_any (V V1 V2 : Value) (l ns ws : List ByteArray) (w : World) (hm : l.length ≤ 1000000) (h0 : Sv w w.heap.size V l) (h1 : Sv w w.heap.size V1 ns) (h2 : Sv w w.heap.size V2 ws) (hn1 : ns.length ≤ 1000) (hn2 : ws.length ≤ 1000) :
    Calls Tryd.prog 55 #[V, V1, V2] w fun e w' => ∃ v, e = .returned v ∧ Sown w.heap.size w' v (closedS ns ws l.reverse).reverse ∧ Below w.heap.size w w' := by
  obtain ⟨A, c, rfl, hc, hA, hr⟩ := h0
  have HV1 := Lib.hid h1; have HV2 := Lib.hid h2; have HR := Lib.hid hr
  clear h1 h2 hr
  obtain ⟨i, hi⟩ : ∃ i, idx ns ws l = i := ⟨_, rfl⟩
  go_enter Tryd.func55, Tryd.ntmps55
  go_wp2_with fail
  refine (refFound1 _ V1 V2 l ns ws w hm A c rfl HR.out HV1.out HV2.out hn1 hn2 i hi).mono ?_
  rintro e w1 ⟨rfl, rfl⟩
  have HI := Lib.hid hi
  clear hi
  go_wp2
  go_loop [0, 7] (fun v x => ∃ (k : Nat) (j : Int), v = .slice A k c ∧ x = .int .i64 j ∧ k ≤ l.length ∧ idx ns ws (l.take k) = j ∧ closedS ns ws (l.take k).reverse = closedS ns ws l.reverse) (fun v _ => lenOf v)
  case atStart => exact ⟨l.length, i, rfl, rfl, Nat.le_refl _, by rw [List.take_length]; exact HI.out, by rw [List.take_length]⟩
  case round =>
    obtain ⟨k, j, rfl, rfl, hk, hj, hcl⟩ := hrel
    rcases idx_take (ns := ns) (ws := ws) (o := l.take k) with ⟨e1, e2⟩ | ⟨m, e1, hmk, e2⟩
    · rw [hj] at e1
      subst e1
      rw [closedS_no e2] at hcl
      have hfin : (closedS ns ws l.reverse).reverse = l.take k := by rw [← hcl, List.reverse_reverse]
      have HFIN := Lib.hid hfin
      have hkl : (l.take k).length = k := by rw [List.length_take]; omega
      have hs0 := Sown.made w
      have HS0 := Lib.hid hs0; have HKL := Lib.hid hkl
      clear hcl hj e2 hs0 hkl hfin
      go_wp2_with (at_builtin; refine app_all _ rfl (.tmp 21) (.tmp 22) rfl w.heap.size _ [] (l.take k) A c w.heap.size rfl HS0.out (by rw [HKL.out]; rfl) hA ((HR.out.take k).below (below_one w _) (Nat.le_refl _)) (by rw [HKL.out]; simp; omega) (by simp) ?_; intro v' w' hown' hk' _)
      go_ret
      exact ⟨v', rfl, by rw [HFIN.out]; exact hown', hk' w (below_one w _)⟩
    · rw [hj] at e1
      subst e1
      have hlk : (l.take k).length = k := by rw [List.length_take]; omega
      rw [hlk] at hmk
      have et : (l.take k).take m = l.take m := by rw [List.take_take, Nat.min_eq_left (by omega)]
      rw [closedS_yes e2, et] at hcl
      have hge : decide ((0 : Int) ≤ (m : Int)) = true := decide_eq_true (by omega)
      have hml : (l.take m).length = m := by rw [List.length_take]; omega
      obtain ⟨i2, hi2⟩ : ∃ i, idx ns ws (l.take m) = i := ⟨_, rfl⟩
      have HC := Lib.hid hcl; have HML := Lib.hid hml; have HI2 := Lib.hid hi2
      clear hcl hj e2 hml hi2 et hlk
      have hm0 : (0 : Int) ≤ (m : Int) := by omega
      have hmc : (m : Int) ≤ (c : Int) := by omega
      go_wp2_with fail
      refine (refFound1 _ V1 V2 (l.take m) ns ws w (by rw [HML.out]; omega) A c (by rw [HML.out]) (HR.out.take m) HV1.out HV2.out hn1 hn2 i2 HI2.out).mono ?_
      rintro e w4 ⟨rfl, rfl⟩
      go_wp2
      go_round
      case rel => exact ⟨m, i2, rfl, rfl, by omega, HI2.out, HC.out⟩
      case measure => simp [lenOf]; omega

theorem para1 (n : ByteArray) (w : World) (q : Bool) (hq : para n = q) : Calls Tryd.prog 58 #[.string n] w fun e w' => e = .returned (.bool q) ∧ w = w' := by
  cases q with
  | true =>
    rcases para_true hq with q1 | ⟨q1, q2⟩ | ⟨q1, q2, q3⟩
    all_goals
      clear hq
      go_enter Tryd.func58, Tryd.ntmps58
      go_wp2
      go_ret
      exact ⟨rfl, rfl⟩
  | false =>
    obtain ⟨q1, q2, q3⟩ := para_false hq
    clear hq
    go_enter Tryd.func58, Tryd.ntmps58
    go_wp2
    go_ret
    exact ⟨rfl, rfl⟩

set_option maxRecDepth 100000 in
set_option maxHeartbeats 1000000 in
theorem refOpened_any (V : Value) (l : List ByteArray) (n : ByteArray) (w : World) (hm : l.length ≤ 1000000) (h0 : Sv w w.heap.size V l) :
    Calls Tryd.prog 35 #[V, .string n] w fun e w' => ∃ v, e = .returned v ∧ Sown w.heap.size w' v (openedS n l.reverse).reverse ∧ Below w.heap.size w w' := by
  have hL1 := closes_len n
  have hL2 := walls_len n
  have HV := Lib.hid h0
  clear h0
  go_enter Tryd.func35, Tryd.ntmps35
  go_wp2_with fail
  refine (Na.refCloses_any n w).mono ?_
  rintro e w1 ⟨V1, rfl, s1, b1⟩
  go_wp2_with fail
  refine (Na.refWalls_any n w1).mono ?_
  rintro e w2 ⟨V2, rfl, s2, b2⟩
  have B2 := bt b1 b2
  have v1 : Sv w2 w2.heap.size V1 (closesL n) := sv_own (s1.below b2 (Nat.le_refl _))
  go_wp2_with fail
  refine (refClosed_any V V1 V2 l (closesL n) (wallsL n) w2 hm ((HV.out.below B2 (Nat.le_refl _)).more B2.size) v1 (sv_own s2) hL1 hL2).mono ?_
  rintro e w3 ⟨V3, rfl, s3, b3⟩
  have B3 := bt B2 b3
  obtain ⟨o, ho⟩ : ∃ o, (closedS (closesL n) (wallsL n) l.reverse).reverse = o := ⟨_, rfl⟩
  rw [ho] at s3
  have hor : closedS (closesL n) (wallsL n) l.reverse = o.reverse := by rw [← ho, List.reverse_reverse]
  have hol : o.length ≤ 1000000 := by
    rw [← ho, List.length_reverse]
    have := (closedS_end (closesL n) (wallsL n) l.reverse).2.length_le
    rw [List.length_reverse] at this
    omega
  have HS3 := Lib.hid s3; have HB3 := Lib.hid B3; have HOR := Lib.hid hor
  have hsz := B2.size
  clear s1 s2 s3 b1 b2 b3 B2 B3 v1 ho hor HV
  cases hp : para n with
  | true =>
    have HO := Lib.hid (opened_yes hp l.reverse)
    go_wp2_with fail
    refine (para1 n w3 true hp).mono ?_
    rintro e w4 ⟨rfl, rfl⟩
    go_wp2_with fail
    refine (Na.refWalls_any n_p (w3.alloc (.cells #[.string n_p] 9))).mono ?_
    rintro e w5 ⟨V5, rfl, s5, b5⟩
    have hb5 := bt (below_one w3 (.cells #[.string n_p] 9)) b5
    have v3 : Sv w5 w5.heap.size V3 o := Sv.up3 (sv_own HS3.out) hb5
    have vp : Sv w5 w5.heap.size (.slice (some ⟨w3.heap.size, 0, none⟩) 1 1) [n_p] := Sv.up3 (sv_lit w3 [n_p]) b5
    go_wp2_with fail
    refine (refClosed_any V3 _ V5 o [n_p] (wallsL n_p) w5 hol v3 vp (sv_own s5) (by simp) (walls_len _)).mono ?_
    rintro e w6 ⟨V6, rfl, s6, b6⟩
    have HS6 := Lib.hid s6; have HB6 := Lib.hid (bt HB3.out (bt hb5 b6))
    have hz5 := hb5.size
    have hz3 := HB3.out.size
    clear s5 b5 hb5 v3 vp s6 b6
    go_wp2
    go_ret
    refine ⟨V6, rfl, ?_, HB6.out⟩
    rw [HO.out, HOR.out]
    exact HS6.out.mono (by omega)
  | false =>
    have HO := Lib.hid (opened_no hp l.reverse)
    go_wp2_with fail
    refine (para1 n w3 false hp).mono ?_
    rintro e w4 ⟨rfl, rfl⟩
    go_wp2
    go_ret
    refine ⟨V3, rfl, ?_, HB3.out⟩
    rw [HO.out, HOR.out, List.reverse_reverse]
    exact HS3.out.mono hsz

theorem refNested_any (n : ByteArray) (V : Value) (l : List ByteArray) (w : World) (hm : l.length ≤ 1000000) (h : Sv w w.heap.size V l) (q : Bool) (hq : nestedB n l = q) :
    Calls Tryd.prog 16 #[.string n, V] w fun e w' => e = .returned (.bool q) ∧ Below w.heap.size w w' := by
  have HV := Lib.hid h
  obtain ⟨A, c, rfl, hc, _, hr⟩ := h
  go_enter Tryd.func16, Tryd.ntmps16
  go_wp2_with fail
  refine (refOpened_any _ l n w hm HV.out).mono ?_
  rintro e w1 ⟨v, rfl, hs, b1⟩
  obtain ⟨A2, c2, hv, _⟩ := hs.form
  subst hv
  obtain ⟨k, hk⟩ : ∃ k, (openedS n l.reverse).reverse.length = k := ⟨_, rfl⟩
  rw [hk]
  have he : ((k : Int) == (l.length : Int)) = q := by
    rw [← hq, nestedB, ← hk, List.length_reverse, Bool.eq_iff_iff, beq_iff_eq, decide_eq_true_iff]
    omega
  have HB := Lib.hid b1
  clear b1 hs hq hk
  go_wp2
  go_ret
  exact ⟨rfl, HB.out⟩

end Go.Proofs.YtoijeljjehjfjaaDoor.Bu
