/-
  Walks of stage 1: chars.Decode, chars.Lines, chars.Ready: each returns the string that the plain function of CharsSpec says, where that string and the argument have at most 2^47 bytes.
  Walks of stage 1: chars.Lines, chars.Ready: each returns the string that the plain function of CharsSpec says, where that string and the argument have at most 2^47 bytes.
  Walks of stage 7: In, Parse.
  Stage 8, in plain words: what is written of clean trees is ready.
  Walks of stage 7: In and Parse of as many bytes as there may be.
  Stage 3: where the package's table reads as its text lays it, the walks' table is there; the door's own heap is such a world.
  Stage 8's law WriteBack: it returns true.
-/
import Derived.Test.YtenmlpfjeohkiaaGreatDoorCk07
import Derived.WalkLawsBesides
import Derived.Lib.AppendStr
import Derived.WalkSmall
import Derived.Laws.IdiomStrings
import Derived.Test.YtenmlpfjeohkiaaGreatDoorCk09
import Derived.Test.YtenmlpfjeohkiaaGreatDoorCk04
import Derived.Test.YtenmlpfjeohkiaaGreatDoorCk05
import Derived.Test.YtenmlpfjeohkiaaGreatDoorCk02
import Derived.ProofKit
import Derived.LaidMore
import Derived.OpenShut
import Derived.Stop.Joined
import Derived.Test.YtenmlpfjeohkiaaGreatDoorCk08
namespace Go.Proofs.YtenmlpfjeohkiaaGreatDoor.Ch
set_option maxRecDepth 100000
set_option linter.unusedSimpArgs false
set_option linter.unusedVariables false
open Go.RowKit
def bc (b : UInt8) : Value := .int .u8 b.toNat
/-- v is a slice of bytes of the call's own that holds l. -/
def Own (N : Nat) (w : World) (v : Value) (l : List UInt8) : Prop := w.ownsRow N 5 1 v l.length (l.map bc)

theorem info_u8 : (Tryz.prog.info? 5).map (fun i => (i.zero, i.size, i.bytes)) = some (some (.int .u8 0), 1, 1) := by kernel_rfl

theorem Own.iterAt {N : Nat} {w : World} {v : Value} {l : List UInt8} (h : Own N w v l) {k : Nat} {s : ByteArray} {pos : Nat} (hk : w.heap[k]? = some (.stringIter s pos)) (pos' : Nat) : Own N (w.iterAt k s pos') v l := by
  refine ⟨h.1, ?_⟩
  rcases h.2 with hn | ⟨g, cap, cur, hv, hb, hg, rest⟩
  · exact .inl hn
  · have hkg : g ≠ k := by
      intro e1
      rw [e1, hk] at hg
      cases hg
    exact .inr ⟨g, cap, cur, hv, hb, (Lib.iterAt_other w k g s pos' hkg).trans hg, rest⟩

theorem Own.iterKept {N : Nat} {w w' : World} {v : Value} {l : List UInt8} (h : Own N w v l) (hg : w.grownBy w' v.ownBlock) {k : Nat} {s : ByteArray} {pos : Nat} (hk : w.heap[k]? = some (.stringIter s pos)) : w'.heap[k]? = some (.stringIter s pos) := by
  have hlt : k < w.heap.size := (Array.getElem?_eq_some_iff.1 hk).1
  rw [hg.block k hlt, hk]
  intro e
  rcases h.2 with ⟨hv, _⟩ | ⟨g, cap, cur, hv, hb, hgg, rest⟩
  · rw [hv] at e; simp [Value.ownBlock] at e
  · rw [hv] at e; simp [Value.ownBlock] at e
    rw [← e, hk] at hgg; cases hgg

theorem Own.below {N : Nat} {w0 w w' : World} {v : Value} {l : List UInt8} (h : Own N w v l) (hg : w.grownBy w' v.ownBlock) (hb : Below N w0 w) (hN : N ≤ w.heap.size) : Below N w0 w' :=
  hb.grown hg hN fun k hk => (h.lt k hk).1

theorem Own.string {N : Nat} {w : World} {v : Value} {l : List UInt8} (h : Own N w v l) : (convert 48 9 v).run Tryz.prog w = .ok (.string (B l)) w := by
  rcases h.2 with ⟨hv, hl⟩ | ⟨g, cap, cur, hv, hb, hgg, rest⟩
  · have : l = [] := List.eq_nil_of_length_eq_zero hl
    subst this hv
    rw [run_convert_bytes_string w _ _ _ none 0 0 Tryz.underlying48 Tryz.underlying5 Tryz.underlying9]
    rfl
  · subst hv
    exact run_convert_bytes_back w _ _ _ ⟨g, 0, none⟩ cap l Tryz.underlying48 Tryz.underlying5 Tryz.underlying9 fun j hj => World.ownsRow.cells h rfl j _ (by simp [bc, hj])

theorem strCells_L (s : ByteArray) : Lib.strCells s = (L s).map bc := rfl

theorem Own.appended {N : Nat} {w : World} {v : Value} {l m : List UInt8} {n : Nat} (h : w.ownsRow N 5 1 v n (l.map bc ++ m.map bc)) (hn : n = l.length + m.length) : Own N w v (l ++ m) := by
  unfold Own
  rw [List.map_append, List.length_append, ← hn]
  exact h

theorem L_def (s : ByteArray) : L s = s.data.toList := rfl
theorem enc_F : L (Utf8.encode 65533) = F :=
  (L_def _).trans ((congrArg (fun z : Int => (Utf8.encode z).data.toList) (show (65533 : Int) = ((0xFFFD : Nat) : Int) from rfl)).trans F_good.enc)
theorem enc_r (r : Nat) (h : r ≠ 0) : L (Utf8.encode r) = encR r := (L_def _).trans (encR_pos h).symm

set_option maxHeartbeats 1000000 in
theorem decode_any (s : ByteArray) (w : World) (hs : s.size ≤ 140737488355328) (hd : (dL (L s)).length ≤ 140737488355328) :
    Calls Tryz.prog 58 #[.string s] w fun e w' => e = .returned (.string (B (dL (L s)))) ∧ Below w.heap.size w w' := by
  obtain ⟨i0, hi, hz0, hz1, hz2⟩ := info_parts info_u8
  go_enter Tryz.func58, Tryz.ntmps58
  go_wp2_with (at_make; refine wpList_make_own _ rfl (.const (.int .i64 0)) (.tmp 7) 48 rfl w.heap.size 5 i0 (.int .u8 0) 1 Tryz.underlying48 hi hz0 hz1 .i64 .i64 _ s.size rfl rfl rfl (by rw [hz2]; omega) (by unfold maxLen; omega) (Nat.le_refl _) ?_; intro w1 hown hgrow)
  have hk0 : (w1.iter s 0).heap[w1.heap.size]? = some (.stringIter s 0) := World.iter_heap w1 s 0
  have hb0 : Below w.heap.size w (w1.iter s 0) := ((Below.refl w.heap.size w).grown hgrow (Nat.le_refl _) (by simp)).alloc hgrow.size _
  have ho0 : Own w.heap.size (w1.iter s 0) (.slice (some ⟨w.heap.size, 0, none⟩) 0 s.size) [] := World.ownsRow.alloc hown _
  have hsz1 := hgrow.size
  clear hown hgrow
  have HK0 := Lib.hid hk0; clear hk0
  go_loopw [3, 5] (fun v _ wr => ∃ (pos : Nat) (acc : List UInt8), wr.heap[w1.heap.size]? = some (.stringIter s pos) ∧ Own w.heap.size wr v acc ∧ acc ++ dL ((L s).drop pos) = dL (L s) ∧ Below w.heap.size w wr) (fun _ _ wr => s.size - wr.iterPos w1.heap.size)
  case atStart => exact ⟨0, [], HK0.out, ho0, by simp, hb0⟩
  case round =>
    clear ho0 hb0 HK0
    obtain ⟨pos, acc, hk, hown, hc, hbel⟩ := hrel
    have hpos : wr.iterPos w1.heap.size = pos := iterPos_of hk
    have HC := Lib.hid hc; clear hc
    have HP := Lib.hid hpos; clear hpos
    by_cases hp : pos < s.size
    · have hnx : ∀ ty, (Instr.next (.pointer (some ⟨w1.heap.size, 0, none⟩)) true ty).run Tryz.prog wr = _ := fun ty => Lib.run_next_any_at wr _ s pos ty hk hp
      have hdp := dec_pos _ (drop_ne s pos hp)
      have hst := dL_step _ (drop_ne s pos hp)
      rw [List.drop_drop] at hst
      rw [← decode_eq] at hst hdp
      have hk' := Lib.iterAt_heap wr w1.heap.size s pos (pos + (Utf8.decode s pos).2) hk
      have hown' := hown.iterAt hk (pos + (Utf8.decode s pos).2)
      have hbel' := Lib.below_iterAt hbel (k := w1.heap.size) hsz1 s (pos + (Utf8.decode s pos).2)
      have hN : w.heap.size ≤ (wr.iterAt w1.heap.size s (pos + (Utf8.decode s pos).2)).heap.size := hbel'.size
      have HS := Lib.hid hst; clear hst
      have HK := Lib.hid hk'; clear hk hk'
      clear hown hbel
      by_cases hr : (Utf8.decode s pos).1 = 0
      · have hrb : (((Utf8.decode s pos).1 : Int) == 0) = true := by rw [hr]; rfl
        have HR := Lib.hid hr; clear hr
        have he : L (Utf8.encode 65533) = F := enc_F
        have hbd : acc.length + (Utf8.encode 65533).size ≤ 140737488355328 := by
          have h1 := congrArg List.length HC.out
          rw [HS.out, HR.out, encR_zero, List.length_append, List.length_append] at h1
          rw [← size_L, he]; omega
        have HE := Lib.hid he; clear he
        go_wp2_with (at_builtin; refine Lib.wpList_append_own_string _ rfl (.tmp 16) (.tmp 18) 48 9 rfl w.heap.size 5 i0 Tryz.underlying48 Tryz.underlying9 hi hz0 hz1 hz2 _ acc.length (acc.map bc) rfl hown' _ rfl (by unfold maxLen; omega) hbd hN ?_; intro v2 w2 hown2 hgrow2 _)
        go_roundw
        case rel =>
          refine ⟨pos + (Utf8.decode s pos).2, acc ++ F, hown'.iterKept hgrow2 HK.out, ?_, ?_, hown'.below hgrow2 hbel' hN⟩
          · rw [strCells_L, HE.out] at hown2
            exact Own.appended hown2 (by rw [← size_L, HE.out])
          · rw [← HC.out, HS.out, List.append_assoc]; rw [HR.out, encR_zero]
        case measure =>
          rw [iterPos_of (hown'.iterKept hgrow2 HK.out), HP.out]
          omega
      · have hrb : (((Utf8.decode s pos).1 : Int) == 0) = false := by simpa using fun h => hr (by omega)
        have he : L (Utf8.encode (Utf8.decode s pos).1) = encR (Utf8.decode s pos).1 := enc_r _ hr
        clear hr
        have hbd : acc.length + (Utf8.encode (Utf8.decode s pos).1).size ≤ 140737488355328 := by
          have h1 := congrArg List.length HC.out
          rw [HS.out, List.length_append, List.length_append] at h1
          rw [← size_L, he]; omega
        have HE := Lib.hid he; clear he
        go_wp2_with (at_builtin; refine Lib.wpList_append_own_string _ rfl (.tmp 16) (.tmp 18) 48 9 rfl w.heap.size 5 i0 Tryz.underlying48 Tryz.underlying9 hi hz0 hz1 hz2 _ acc.length (acc.map bc) rfl hown' _ rfl (by unfold maxLen; omega) hbd hN ?_; intro v2 w2 hown2 hgrow2 _)
        go_roundw
        case rel =>
          refine ⟨pos + (Utf8.decode s pos).2, acc ++ encR (Utf8.decode s pos).1, hown'.iterKept hgrow2 HK.out, ?_, ?_, hown'.below hgrow2 hbel' hN⟩
          · rw [strCells_L, HE.out] at hown2
            exact Own.appended hown2 (by rw [← size_L, HE.out])
          · rw [← HC.out, HS.out, List.append_assoc]
        case measure =>
          rw [iterPos_of (hown'.iterKept hgrow2 HK.out), HP.out]
          omega
    · have hnx : ∀ ty, (Instr.next (.pointer (some ⟨w1.heap.size, 0, none⟩)) true ty).run Tryz.prog wr = _ := fun ty => Lib.run_next_end_at wr _ s pos ty hk hp
      have hcv := hown.string
      clear hk
      go_wp2
      go_ret
      refine ⟨ret_str ?_, hbel⟩
      have h1 := HC.out
      rw [drop_nil s pos hp, dL_nil, List.append_nil] at h1
      rw [h1]

end Go.Proofs.YtenmlpfjeohkiaaGreatDoor.Ch

namespace Go.Proofs.YtenmlpfjeohkiaaGreatDoor.Ch
set_option maxRecDepth 100000
set_option linter.unusedSimpArgs false
set_option linter.unusedVariables false
open Go.RowKit
theorem drop_cons (s : ByteArray) (k : Nat) (h : k < s.size) : (L s).drop k = s[k] :: (L s).drop (k + 1) := by
  rw [List.drop_eq_getElem_cons (by rw [size_L]; exact h)]
  rfl

/-- Was the byte ahead a 13? -/
def was (s : ByteArray) (k : Nat) : Bool := (L s)[k - 1]? == some 13 && decide (0 < k)

theorem was_zero (s : ByteArray) : was s 0 = false := by simp [was]
theorem was_succ (s : ByteArray) (k : Nat) (h : k < s.size) : was s (k + 1) = (s[k] == 13) := by
  have : (L s)[k]? = some s[k] := by rw [List.getElem?_eq_getElem (by rw [size_L]; exact h)]; rfl
  simp [was, this]

theorem bd {acc rest total : List UInt8} {x : UInt8} {n : Nat} (h : (acc ++ [x]) ++ rest = total) (ht : total.length ≤ n) : acc.length + 1 ≤ n := by
  have h1 := congrArg List.length h
  rw [List.length_append, List.length_append, List.length_cons, List.length_nil] at h1
  omega

theorem Own.alloc {N : Nat} {w : World} {v : Value} {l : List UInt8} (h : Own N w v l) (o : Obj) : Own N (w.alloc o) v l := World.ownsRow.alloc h o

set_option maxHeartbeats 1000000 in
theorem lines_any (s : ByteArray) (w : World) (hs : s.size ≤ 140737488355328) :
    Calls Tryz.prog 57 #[.string s] w fun e w' => e = .returned (.string (B (ln false (L s)))) ∧ Below w.heap.size w w' := by
  obtain ⟨i0, hi, hz0, hz1, hz2⟩ := info_parts info_u8
  have hll := ln_len false (L s)
  rw [size_L] at hll
  go_enter Tryz.func57, Tryz.ntmps57
  go_wp2_with (at_make; refine wpList_make_own _ rfl (.const (.int .i64 0)) (.tmp 6) 48 rfl w.heap.size 5 i0 (.int .u8 0) 1 Tryz.underlying48 hi hz0 hz1 .i64 .i64 _ s.size rfl rfl rfl (by rw [hz2]; omega) (by unfold maxLen; omega) (Nat.le_refl _) ?_; intro w1 hown hgrow)
  have hb0 : Below w.heap.size w w1 := (Below.refl w.heap.size w).grown hgrow (Nat.le_refl _) (by simp)
  have ho0 : Own w.heap.size w1 (.slice (some ⟨w.heap.size, 0, none⟩) 0 s.size) [] := hown
  clear hown hgrow
  go_loopw [3, 4, 10] (fun v _ i wr => ∃ (k : Nat) (acc : List UInt8), i = .int .i64 k ∧ k ≤ s.size ∧ Own w.heap.size wr v acc ∧ acc ++ ln (was s k) ((L s).drop k) = ln false (L s) ∧ Below w.heap.size w wr) (fun _ _ i _ => s.size - (intOf i).toNat)
  case atStart => exact ⟨0, [], rfl, Nat.zero_le _, ho0, by simp [was_zero], hb0⟩
  case round =>
    clear ho0 hb0
    obtain ⟨k, acc, rfl, hks, hown, hc, hbel⟩ := hrel
    have hN := hbel.size
    by_cases hp : k < s.size
    · have hdc := drop_cons s k hp
      rw [hdc] at hc
      have hws := was_succ s k hp
      have HW := Lib.hid hws; clear hws hdc
      by_cases h13 : s[k] = 13
      · have hb13 : ((s[k].toNat : Int) == 13) = true := by rw [h13]; rfl
        have hc' : (acc ++ [10]) ++ ln (was s (k + 1)) ((L s).drop (k + 1)) = ln false (L s) := by
          rw [← hc, h13, ln_13, HW.out, h13, List.append_assoc]; rfl
        have hbd := bd hc' hll
        have HC := Lib.hid hc'; clear hc hc' h13
        go_wp2_with (at_builtin; refine wpList_append_own _ rfl (.tmp 24) (.tmp 25) 48 rfl w.heap.size 5 i0 (.int .u8 0) 1 1 Tryz.underlying48 hi hz0 hz1 hz2 rfl (by decide) _ acc.length (acc.map bc) rfl (hown.alloc _) ⟨wr.heap.size, 0, none⟩ 1 1 [.int .u8 10] rfl rfl (cell_one_new _ _ _) (by intro u hu; simp at hu; subst hu; rfl) (by unfold maxLen; omega) (by omega) (by simp; omega) ?_; intro v2 w2 hown2 hgrow2 _)
        go_roundw
        case rel => exact ⟨k + 1, acc ++ [10], by go_num, by omega, Own.appended (m := [10]) hown2 rfl, HC.out, (hown.alloc _).below hgrow2 (hbel.alloc hN _) (by simp; omega)⟩
        case measure => simp [intOf]; omega
      · have hb13 : ((s[k].toNat : Int) == 13) = false := by
          simpa using fun h => h13 (u8_ext (by simpa using (by omega : s[k].toNat = 13)))
        have hn13 : (s[k] == 13) = false := by simpa using h13
        by_cases h10 : s[k] = 10
        · have hb10 : ((s[k].toNat : Int) == 10) = true := by rw [h10]; rfl
          by_cases h0 : 0 < k
          · obtain ⟨j, rfl⟩ : ∃ j, k = j + 1 := ⟨k - 1, by omega⟩
            have hj : j < s.size := by omega
            have hws := was_succ s j hj
            by_cases hj13 : s[j] = 13
            · have hbj : ((s[j].toNat : Int) == 13) = true := by rw [hj13]; rfl
              have hc' : acc ++ ln (was s (j + 1 + 1)) ((L s).drop (j + 1 + 1)) = ln false (L s) := by
                rw [← hc, h10, HW.out, hn13, hws, hj13]
                exact congrArg (acc ++ ·) (ln_10 _).symm
              have HC := Lib.hid hc'; clear hc hc' hws hj13 h10 h13 hn13 h0
              go_wp2_with fail
              go_roundw
              case rel => exact ⟨j + 1 + 1, acc, by go_num, by omega, hown, HC.out, hbel⟩
              case measure => simp [intOf]; omega
            · have hbj : ((s[j].toNat : Int) == 13) = false := by
                simpa using fun h => hj13 (u8_ext (by simpa using (by omega : s[j].toNat = 13)))
              have hc' : (acc ++ [s[j + 1]]) ++ ln (was s (j + 1 + 1)) ((L s).drop (j + 1 + 1)) = ln false (L s) := by
                rw [← hc, ln_other _ _ _ h13 ?_, HW.out, hn13, List.append_assoc]; rfl
                rw [hws]; simp [hj13]
              have hbd := bd hc' hll
              have HC := Lib.hid hc'; clear hc hc' hws hj13 h10 h13 hn13 h0
              go_wp2_with (at_builtin; refine wpList_append_own _ rfl (.tmp 13) (.tmp 17) 48 rfl w.heap.size 5 i0 (.int .u8 0) 1 1 Tryz.underlying48 hi hz0 hz1 hz2 rfl (by decide) _ acc.length (acc.map bc) rfl (hown.alloc _) ⟨wr.heap.size, 0, none⟩ 1 1 [.int .u8 s[j + 1].toNat] rfl rfl (cell_one_new _ _ _) (by intro u hu; simp at hu; subst hu; rfl) (by unfold maxLen; omega) (by omega) (by simp; omega) ?_; intro v2 w2 hown2 hgrow2 _)
              go_roundw
              case rel => exact ⟨j + 1 + 1, acc ++ [s[j + 1]], by go_num, by omega, Own.appended (m := [s[j + 1]]) hown2 rfl, HC.out, (hown.alloc _).below hgrow2 (hbel.alloc hN _) (by simp; omega)⟩
              case measure => simp [intOf]; omega
          · obtain rfl : k = 0 := by omega
            have hc' : (acc ++ [s[0]]) ++ ln (was s (0 + 1)) ((L s).drop (0 + 1)) = ln false (L s) := by
              rw [← hc, ln_other _ _ _ h13 ?_, HW.out, hn13, List.append_assoc]; rfl
              rw [was_zero]; simp
            have hbd := bd hc' hll
            have HC := Lib.hid hc'; clear hc hc' h10 h13 hn13 h0
            go_wp2_with (at_builtin; refine wpList_append_own _ rfl (.tmp 13) (.tmp 17) 48 rfl w.heap.size 5 i0 (.int .u8 0) 1 1 Tryz.underlying48 hi hz0 hz1 hz2 rfl (by decide) _ acc.length (acc.map bc) rfl (hown.alloc _) ⟨wr.heap.size, 0, none⟩ 1 1 [.int .u8 s[0].toNat] rfl rfl (cell_one_new _ _ _) (by intro u hu; simp at hu; subst hu; rfl) (by unfold maxLen; omega) (by omega) (by simp; omega) ?_; intro v2 w2 hown2 hgrow2 _)
            go_roundw
            case rel => exact ⟨0 + 1, acc ++ [s[0]], by go_num, by omega, Own.appended (m := [s[0]]) hown2 rfl, HC.out, (hown.alloc _).below hgrow2 (hbel.alloc hN _) (by simp; omega)⟩
            case measure => simp [intOf]; omega
        · have hb10 : ((s[k].toNat : Int) == 10) = false := by
            simpa using fun h => h10 (u8_ext (by simpa using (by omega : s[k].toNat = 10)))
          have hc' : (acc ++ [s[k]]) ++ ln (was s (k + 1)) ((L s).drop (k + 1)) = ln false (L s) := by
            rw [← hc, ln_other _ _ _ h13 (fun x => h10 x.1), HW.out, hn13, List.append_assoc]; rfl
          have hbd := bd hc' hll
          have HC := Lib.hid hc'; clear hc hc'
          clear h13 h10 hn13
          go_wp2_with (at_builtin; refine wpList_append_own _ rfl (.tmp 13) (.tmp 17) 48 rfl w.heap.size 5 i0 (.int .u8 0) 1 1 Tryz.underlying48 hi hz0 hz1 hz2 rfl (by decide) _ acc.length (acc.map bc) rfl (hown.alloc _) ⟨wr.heap.size, 0, none⟩ 1 1 [.int .u8 s[k].toNat] rfl rfl (cell_one_new _ _ _) (by intro u hu; simp at hu; subst hu; rfl) (by unfold maxLen; omega) (by omega) (by simp; omega) ?_; intro v2 w2 hown2 hgrow2 _)
          go_roundw
          case rel => exact ⟨k + 1, acc ++ [s[k]], by go_num, by omega, Own.appended (m := [s[k]]) hown2 rfl, HC.out, (hown.alloc _).below hgrow2 (hbel.alloc hN _) (by simp; omega)⟩
          case measure => simp [intOf]; omega
    · have hcv := hown.string
      rw [List.drop_eq_nil_of_le (by rw [size_L]; omega)] at hc
      have HC := Lib.hid hc; clear hc
      go_wp2
      go_ret
      refine ⟨ret_str ?_, hbel⟩
      have h1 := HC.out
      rw [show ln (was s k) [] = [] from by cases (was s k) <;> rfl, List.append_nil] at h1
      rw [h1]

theorem ready_any (s : ByteArray) (w : World) (hs : s.size ≤ 140737488355328) (hd : (dL (L s)).length ≤ 140737488355328) :
    Calls Tryz.prog 31 #[.string s] w fun e w' => e = .returned (.string (B (ln false (dL (L s))))) ∧ Below w.heap.size w w' := by
  go_enter Tryz.func31, Tryz.ntmps31
  go_wp2_with fail
  refine (decode_any s _ hs hd).mono ?_
  rintro e w1 ⟨rfl, hb1⟩
  go_wp2_with fail
  refine (lines_any (B (dL (L s))) _ (by rw [size_B]; exact hd)).mono ?_
  rintro e w2 ⟨rfl, hb2⟩
  go_wp2
  go_ret
  exact ⟨ret_str (by rw [L_B]), hb1.trans (hb2.mono hb1.size)⟩

end Go.Proofs.YtenmlpfjeohkiaaGreatDoor.Ch

namespace Go.Proofs.YtenmlpfjeohkiaaGreatDoor.Bu
set_option maxRecDepth 100000
set_option linter.unusedVariables false
set_option linter.unusedSimpArgs false
open Go.RowKit Ba Fm Fo Nm Bm
open Ro (At Ro Cw ros Fr Ow Rv)
open Tm (Tk within bulk bulkT bulkA)
open To (Tw tks)
open Re (Tab)
/-- Bytes made ready. -/
def rdy (l : List UInt8) : List UInt8 := Ch.ln false (Ch.dL l)
theorem len_rdy (l : List UInt8) : (rdy l).length ≤ 3 * l.length := Nat.le_trans (Ch.ln_len _ _) (Ch.len_dL l)
theorem ready1 (s : ByteArray) (w : World) (hs : s.size ≤ 5000) :
    Calls Tryz.prog 31 #[.string s] w fun e w' => e = .returned (.string (B (rdy (L s)))) ∧ Below w.heap.size w w' := by
  have hsz := size_L s
  have hdl := Ch.len_dL (L s)
  refine (Ch.ready_any s w (by omega) (show (Ch.dL (L s)).length ≤ _ from by omega)).mono ?_
  rintro e w1 ⟨rfl, b1⟩
  exact ⟨rfl, b1⟩
theorem dsum_bulk : ∀ l : List Tk, dsum l ≤ bulk l
  | [] => Nat.zero_le _
  | t :: r => by
    have := dsum_bulk r
    show t.data.size + dsum r ≤ (List.map bulkT (t :: r)).sum
    rw [List.map_cons, List.sum_cons]
    have e : bulkT t = t.name.size + t.data.size + bulkA t.attrs + t.attrs.length := rfl
    have e2 : bulk r = (List.map bulkT r).sum := rfl
    omega
/-- What In comes to, and how great it may be. -/
def SaysM (w : World) (r : Option (List Ro)) (e : Ending) (w' : World) : Prop :=
  (match r with
  | none => e = .returned (.tuple #[.slice none 0 0, .int .i64 2])
  | some o => ∃ v y, e = .returned (.tuple #[v, .int .i64 0]) ∧ Rv w' v y ∧ ros y = o ∧ Ro.Few o ∧ (Ro.txt o).length ≤ 1000000000) ∧ Below w.heap.size w w'
/-- What In and Parse come to. -/
def Says (w : World) (r : Option (List Ro)) (e : Ending) (w' : World) : Prop :=
  (match r with
  | none => e = .returned (.tuple #[.slice none 0 0, .int .i64 2])
  | some o => ∃ v y, e = .returned (.tuple #[v, .int .i64 0]) ∧ Rv w' v y ∧ ros y = o) ∧ Below w.heap.size w w'
theorem TreeSays.cases {w w' : World} {t : List Tk} {e : Ending} (h : TreeSays w t e w') :
    (treeB ⟨[], []⟩ t = none ∧ e = .returned (.tuple #[.slice none 0 0, .int .i64 2]) ∧ Below w.heap.size w w') ∨
    (∃ o v y, treeB ⟨[], []⟩ t = some o ∧ e = .returned (.tuple #[v, .int .i64 0]) ∧ Ow w.heap.size w' v y ∧ (∀ z ∈ y, Fr w.heap.size w' z) ∧ ros y = o ∧ (Ro.Few o ∧ (Ro.txt o).length ≤ 1000000000) ∧ Below w.heap.size w w') := by
  obtain ⟨h1, h2⟩ := h
  cases ht : treeB ⟨[], []⟩ t with
  | none => rw [ht] at h1; exact .inl ⟨rfl, h1, h2⟩
  | some o =>
    rw [ht] at h1
    obtain ⟨v, y, e1, e2, e3, e4, e5⟩ := h1
    exact .inr ⟨o, v, y, rfl, e1, e2, e3, e4, e5, h2⟩
theorem good_zero : ∀ {l : List Ro} {p : List ByteArray}, goodFrom p l → ∀ x ∈ l, 0 ≤ x.depth
  | [], p, _, x, h => by cases h
  | y :: l, p, h, x, hx => by
    rcases List.mem_cons.1 hx with e | e
    · rw [e]; exact h.1.1
    · exact good_zero h.2 x e
theorem tree_held {t : List Tk} {o : List Ro} (h : treeB ⟨[], []⟩ t = some o) : Ro.Held o := fun x hx => by
  obtain ⟨h1, _, _, h2⟩ := tree_all h
  have := good_zero h1 x hx
  have := h2.2 x hx
  omega

set_option maxRecDepth 100000 in
set_option maxHeartbeats 1000000 in
theorem In_any (s nm : ByteArray) (w : World) (hs : s.size ≤ 5000) (hn : nm.size ≤ 140737488351232) (hT : Tab w) :
    Calls Tryz.prog 13 #[.string s, .string nm] w fun e w' => SaysM w (treeB ⟨[], []⟩ (within (L nm) (rdy (L s)))) e w' := by
  have h : decide ((65536 : Int) < (s.size : Int)) = false := decide_eq_false (by omega)
  have hsz := size_L s
  have hdl := Ch.len_dL (L s)
  have hrl := len_rdy (L s)
  have HT := Lib.hid hT
  clear hT
  go_enter Tryz.func13, Tryz.ntmps13
  go_wp2_with fail
  refine (ready1 s w hs).mono ?_
  rintro e w1 ⟨rfl, b1⟩
  have hT1 := HT.out.below b1
  have HB1 := Lib.hid b1
  clear b1
  go_wp2_with fail
  refine (To.In_any (B (rdy (L s))) nm w1 (by rw [size_B]; omega) hn hT1).mono ?_
  rintro e w2 ⟨V, l, rfl, ho, hl, b2⟩
  rw [L_B] at hl
  obtain ⟨A, c, rfl, hc, _, _, hr⟩ := ho.form
  have hwl := Tm.within_len (L nm) (rdy (L s))
  have hwb := Tm.bulk_within (L nm) (rdy (L s))
  have hl' : tks l = within (L nm) (rdy (L s)) := hl
  have hll : l.length ≤ 200000 := by rw [← To.len_tks, hl']; omega
  have hds : dsum (tks l) ≤ 1000000000 := by
    have := dsum_bulk (tks l)
    rw [hl'] at this ⊢
    omega
  have hat : ∀ x ∈ l, x.tk.attrs.length ≤ 1000000 := fun x hx => by
    have h1 := Tm.bulk_mem (l := tks l) (t := x.tk) (List.mem_map.2 ⟨x, hx, rfl⟩)
    rw [hl'] at h1
    unfold bulkT at h1
    omega
  have HL := Lib.hid hl'; have HR := Lib.hid hr; have HB2 := Lib.hid (bt HB1.out b2)
  clear hl hl' hr ho b2 hwl hwb hT1 hdl hrl hsz
  go_wp2_with fail
  refine (Tree_any A c l w2 HR.out hc hll hds hat).mono ?_
  intro e w3 h3
  rw [HL.out] at h3
  rcases h3.cases with ⟨ht, rfl, b3⟩ | ⟨o, v, y, ht, rfl, how, hfr, hros, hmi, b3⟩
  · have HTR := Lib.hid ht
    clear ht h3
    go_wp2
    go_ret2
    rw [HTR.out]
    exact ⟨rfl, bt HB2.out b3⟩
  · have HTR := Lib.hid ht; have HO := Lib.hid how; have HRO := Lib.hid hros; have HB3 := Lib.hid (bt HB2.out b3)
    clear ht h3 how hfr hros b3
    go_wp2
    go_ret2
    rw [HTR.out]
    exact ⟨⟨v, y, rfl, HO.out.rv (by rw [HRO.out]; exact tree_held HTR.out), HRO.out, hmi⟩, HB3.out⟩

end Go.Proofs.YtenmlpfjeohkiaaGreatDoor.Bu

namespace Go.Proofs.YtenmlpfjeohkiaaGreatDoor.Wm
set_option linter.unusedVariables false
set_option linter.unusedSimpArgs false
open Ba Fm Rm Nm Bm
open Ro (At Ro)
open Ch (rL)
open Bu (rdy)
open Wr (insideB)
/-- Right, without bytes 0 and 13. -/
def Cl (l : List UInt8) : Prop := rL l = true ∧ (0 : UInt8) ∉ l ∧ (13 : UInt8) ∉ l
theorem cl_nil : Cl [] := ⟨rfl, by simp, by simp⟩
theorem cl_app {a b : List UInt8} (ha : Cl a) (hb : Cl b) : Cl (a ++ b) := by
  refine ⟨?_, fun h => ?_, fun h => ?_⟩
  · rw [(Ch.joins a b ha.1).1]; exact hb.1
  · rcases List.mem_append.1 h with h | h
    · exact ha.2.1 h
    · exact hb.2.1 h
  · rcases List.mem_append.1 h with h | h
    · exact ha.2.2 h
    · exact hb.2.2 h
theorem cl_plain {l : List UInt8} (h : Ch.plain l) : Cl l := ⟨Ch.plain_rL l h, fun e => (h 0 e).2.1 rfl, fun e => (h 13 e).2.2 rfl⟩
theorem sub_one {a : UInt8} : ∀ {l : List UInt8}, sub [a] l = false → a ∉ l
  | [], _, h => by cases h
  | b :: r, hs, h => by
    rw [sub, Bool.or_eq_false_iff, Tm.pre_cons, Tm.pre_nil, Bool.and_true, decide_eq_false_iff_not] at hs
    rcases List.mem_cons.1 h with e | e
    · exact hs.1 e.symm
    · exact sub_one hs.2 e
theorem cl_of {l : List UInt8} (h : cleanB l = true) : Cl l := by
  unfold cleanB at h
  simp only [Bool.and_eq_true, Bool.not_eq_true'] at h
  exact ⟨h.1.1, sub_one h.1.2, sub_one h.2⟩
theorem cl_rdy {l : List UInt8} (h : Cl l) : rdy l = l := by
  unfold rdy
  rw [Ch.dL_id l h.1 h.2.1, Ch.ln_id l h.2.2]

theorem e1_low (q : Bool) {c : UInt8} (h : c.toNat < 128) (h0 : c ≠ 0) (h13 : c ≠ 13) : Cl (e1 q c) := by
  refine cl_plain fun x hx => ?_
  unfold e1 at hx
  split at hx
  · revert x; decide
  split at hx
  · revert x; decide
  split at hx
  · revert x; decide
  split at hx
  · revert x; decide
  · rw [List.mem_singleton.1 hx]; exact ⟨h, h0, h13⟩
theorem e1_high (q : Bool) {c : UInt8} (h : 128 ≤ c.toNat) : e1 q c = [c] := by
  unfold e1
  have hn : ∀ d : UInt8, d.toNat < 128 → c ≠ d := fun d hd e => by rw [e] at h; omega
  rw [if_neg (hn 38 (by decide)), if_neg (hn 60 (by decide)), if_neg (hn 62 (by decide)), if_neg (fun e => hn 34 (by decide) e.1)]
theorem esc_high (q : Bool) : ∀ (cs t : List UInt8), (∀ x ∈ cs, 128 ≤ x.toNat ∧ x.toNat ≤ 191) → esc q (cs ++ t) = cs ++ esc q t
  | [], t, _ => rfl
  | c :: cs, t, h => by
    have hc := h c List.mem_cons_self
    rw [List.cons_append, esc_byte q (by rintro ⟨rfl, _⟩; exact absurd hc.2 (by decide)), e1_high q hc.1, esc_high q cs t fun x hx => h x (List.mem_cons_of_mem _ hx)]; rfl
theorem at_zero (a : UInt8) (t : List UInt8) : Ch.at' (a :: t) 0 = a.toNat := rfl
theorem at_succ (a : UInt8) (t : List UInt8) (k : Nat) : Ch.at' (a :: t) (k + 1) = Ch.at' t k := by unfold Ch.at'; rw [List.getD_cons_succ]
theorem inn_form {l : List UInt8} {k lo hi : Nat} (h : Ch.inn l k lo hi = true) : k < l.length ∧ lo ≤ Ch.at' l k ∧ Ch.at' l k ≤ hi := by
  unfold Ch.inn at h
  simp only [Bool.and_eq_true, decide_eq_true_eq] at h
  exact h
theorem low_lo (c : Nat) : 128 ≤ Ch.low c := by
  unfold Ch.low
  split
  · omega
  · split <;> omega
theorem high_hi (c : Nat) : Ch.high c ≤ 191 := by
  unfold Ch.high
  split
  · omega
  · split <;> omega
/-- What a character looks like. -/
theorem sz_form {h : UInt8} {l : List UInt8} (hs : Ch.sz (h :: l) ≠ 0) : (Ch.sz (h :: l) = 1 ∧ h.toNat < 128) ∨ (128 ≤ h.toNat ∧ ∃ cs t, l = cs ++ t ∧ Ch.sz (h :: l) = cs.length + 1 ∧ (∀ x ∈ cs, 128 ≤ x.toNat ∧ x.toNat ≤ 191) ∧ cs ≠ [] ∧ (h = 194 → cs.length = 1)) := by
  have hz := low_lo h.toNat
  have hy := high_hi h.toNat
  unfold Ch.sz at hs ⊢
  split at hs
  · rename_i h1
    rw [if_pos h1]
    exact .inl ⟨rfl, h1⟩
  rename_i h1
  rw [if_neg h1]
  have h1' : 128 ≤ h.toNat := by rw [at_zero] at h1; omega
  right
  refine ⟨h1', ?_⟩
  split at hs
  · rename_i h2
    rw [if_pos h2]
    rw [Bool.and_eq_true] at h2
    obtain ⟨k1, k2, k3⟩ := inn_form h2.2
    cases l with
    | nil => exact absurd k1 (by simp)
    | cons a t =>
      simp only [at_succ, at_zero] at k2 k3
      exact ⟨[a], t, rfl, rfl, fun x hx => by rw [List.mem_singleton.1 hx]; exact ⟨k2, k3⟩, by simp, fun _ => rfl⟩
  rename_i h2
  rw [if_neg h2]
  split at hs
  · exact absurd rfl hs
  rename_i h3
  rw [if_neg h3]
  simp only [Bool.or_eq_true, Bool.not_eq_true', not_or, Bool.not_eq_false] at h3
  obtain ⟨k1, k2, k3⟩ := inn_form h3.1
  obtain ⟨m1, m2, m3⟩ := inn_form h3.2
  cases l with
  | nil => exact absurd k1 (by simp)
  | cons a l =>
    cases l with
    | nil => exact absurd m1 (by simp)
    | cons b t =>
      simp only [at_succ, at_zero] at k2 k3
      simp only [at_succ, at_zero] at m2 m3
      split at hs
      · rename_i h4
        rw [if_pos h4]
        rw [at_zero, Bool.and_eq_true, decide_eq_true_iff, decide_eq_true_iff] at h4
        refine ⟨[a, b], t, rfl, rfl, fun x hx => ?_, by simp, fun e => ?_⟩
        · simp only [List.mem_cons, List.not_mem_nil, or_false] at hx
          rcases hx with rfl | rfl
          · exact ⟨by omega, by omega⟩
          · exact ⟨m2, m3⟩
        · rw [e] at h4; exact absurd h4.1 (by decide)
      · rename_i h4
        rw [if_neg h4]
        split at hs
        · rename_i h5
          rw [if_pos h5]
          rw [at_zero, Bool.and_eq_true, Bool.and_eq_true, decide_eq_true_iff, decide_eq_true_iff] at h5
          obtain ⟨n1, n2, n3⟩ := inn_form h5.2
          cases t with
          | nil => exact absurd n1 (by simp)
          | cons d t =>
            simp only [at_succ, at_zero] at n2 n3
            refine ⟨[a, b, d], t, rfl, rfl, fun x hx => ?_, by simp, fun e => ?_⟩
            · simp only [List.mem_cons, List.not_mem_nil, or_false] at hx
              rcases hx with rfl | rfl | rfl
              · exact ⟨by omega, by omega⟩
              · exact ⟨m2, m3⟩
              · exact ⟨n2, n3⟩
            · rw [e] at h5; exact absurd h5.1.1 (by decide)
        · exact absurd rfl hs
theorem cl_esc (q : Bool) (n : Nat) : ∀ l : List UInt8, l.length ≤ n → Cl l → Cl (esc q l) := by
  induction n with
  | zero =>
    intro l h _
    obtain rfl : l = [] := List.eq_nil_of_length_eq_zero (by omega)
    rw [esc_nil]; exact cl_nil
  | succ n ih =>
    intro l h hc
    cases l with
    | nil => rw [esc_nil]; exact cl_nil
    | cons a l =>
      have hne : (a :: l) ≠ [] := List.cons_ne_nil _ _
      have hr := hc.1
      rw [Ch.rL_sz _ hne] at hr
      by_cases hs : Ch.sz (a :: l) = 0
      · rw [if_pos hs] at hr; cases hr
      rw [if_neg hs] at hr
      have h0 : ∀ x ∈ a :: l, x ≠ 0 ∧ x ≠ 13 := fun x hx => ⟨fun e => hc.2.1 (by rwa [e] at hx), fun e => hc.2.2 (by rwa [e] at hx)⟩
      rw [List.length_cons] at h
      rcases sz_form hs with ⟨e1, e2⟩ | ⟨e1, cs, t, rfl, e2, e3, e4, e5⟩
      · rw [e1, List.drop_succ_cons, List.drop_zero] at hr
        have hl : Cl l := ⟨hr, fun e => hc.2.1 (List.mem_cons_of_mem _ e), fun e => hc.2.2 (List.mem_cons_of_mem _ e)⟩
        rw [esc_byte q (by rintro ⟨rfl, _⟩; exact absurd e2 (by decide))]
        exact cl_app (e1_low q e2 (h0 a List.mem_cons_self).1 (h0 a List.mem_cons_self).2) (ih l (by omega) hl)
      · rw [e2, List.drop_succ_cons, List.drop_left] at hr
        have hlt : t.length ≤ n := by rw [List.length_append] at h; omega
        have ht : Cl t := ⟨hr, fun e => hc.2.1 (List.mem_cons_of_mem _ (List.mem_append_right _ e)), fun e => hc.2.2 (List.mem_cons_of_mem _ (List.mem_append_right _ e))⟩
        by_cases hn : a = 194 ∧ (cs ++ t).head? = some 160
        · obtain ⟨rfl, hn2⟩ := hn
          have hl1 := e5 rfl
          match cs, hl1 with
          | [b], _ =>
            have hb : b = 160 := by simpa using hn2
            subst hb
            show Cl (esc q (194 :: 160 :: t))
            rw [esc_nbsp]
            exact cl_app (cl_plain (by unfold Ch.plain; decide)) (ih t hlt ht)
        · rw [esc_byte q hn, e1_high q e1, esc_high q cs t e3]
          obtain ⟨c, r, t', f1, f2, f3⟩ := Ch.sz_good _ hne hs
          have hcc : c = a :: cs := by
            have hlen : c.length = (a :: cs).length := by rw [← f3, e2]; rfl
            have : (a :: cs) ++ t = c ++ t' := f1
            exact (List.append_inj_left this.symm hlen)
          have hgood : Cl ((a :: cs) ++ esc q t) := by
            have ie := ih t hlt ht
            refine ⟨by rw [← hcc, Ch.rL_good f2]; exact ie.1, fun hx => ?_, fun hx => ?_⟩
            · rcases List.mem_append.1 hx with hx | hx
              · exact hc.2.1 (by rcases List.mem_cons.1 hx with e | e; exact e ▸ List.mem_cons_self; exact List.mem_cons_of_mem _ (List.mem_append_left _ e))
              · exact ie.2.1 hx
            · rcases List.mem_append.1 hx with hx | hx
              · exact hc.2.2 (by rcases List.mem_cons.1 hx with e | e; exact e ▸ List.mem_cons_self; exact List.mem_cons_of_mem _ (List.mem_append_left _ e))
              · exact ie.2.2 hx
          exact hgood

/-- What a row has is clean. -/
def RowCl (x : Ro) : Prop := (x.kind = 0 → Cl (L x.name) ∧ ∀ a ∈ x.attrs, Cl (L a.name) ∧ Cl (L a.value)) ∧ (x.kind ≠ 0 → Cl (L x.data))
theorem cl_attrs : ∀ l : List At, (∀ a ∈ l, Cl (L a.name) ∧ Cl (L a.value)) → Cl (l.flatMap wA)
  | [], _ => cl_nil
  | a :: r, h => by
    obtain ⟨h1, h2⟩ := h a List.mem_cons_self
    rw [List.flatMap_cons]
    refine cl_app ?_ (cl_attrs r fun b hb => h b (List.mem_cons_of_mem _ hb))
    unfold wA
    exact cl_app (cl_plain (by unfold Ch.plain; decide)) (cl_app h1 (cl_app (cl_plain (by unfold Ch.plain; decide)) (cl_app (cl_esc true _ _ (Nat.le_refl _) h2) (cl_plain (by unfold Ch.plain; decide)))))
theorem cl_node (raw : Bool) {x : Ro} (h : RowCl x) : Cl (node raw x) := by
  unfold node
  split
  · rename_i hk
    obtain ⟨h1, h2⟩ := h.1 hk
    unfold tagW
    exact cl_app (cl_app (cl_app (cl_plain (by unfold Ch.plain; decide)) h1) (cl_attrs _ h2)) (cl_plain (by unfold Ch.plain; decide))
  · rename_i hk
    have hd := h.2 hk
    split
    · split
      · exact hd
      · exact cl_esc false _ _ (Nat.le_refl _) hd
    · split
      · exact cl_app (cl_app (cl_plain (by unfold Ch.plain; decide)) hd) (cl_plain (by unfold Ch.plain; decide))
      · exact cl_nil
theorem cl_end {x : Ro} (h : RowCl x) (hh : holds x = true) : Cl (endW x) := by
  unfold endW
  exact cl_app (cl_app (cl_plain (by unfold Ch.plain; decide)) (h.1 (holds_kind hh).1).1) (cl_plain (by unfold Ch.plain; decide))
theorem cl_wr (n : Nat) : ∀ (l : List Ro) (raw : Bool), l.length ≤ n → (∀ x ∈ l, RowCl x) → Cl (wr raw l) := by
  induction n with
  | zero =>
    intro l raw h _
    obtain rfl : l = [] := List.eq_nil_of_length_eq_zero (by omega)
    rw [wr_nil]; exact cl_nil
  | succ n ih =>
    intro l raw h hc
    cases l with
    | nil => rw [wr_nil]; exact cl_nil
    | cons x r =>
      have hp := len_parts x r
      have hib := inn_beh x r
      rw [List.length_cons] at h
      rw [wr_cons]
      have hx := hc x List.mem_cons_self
      refine cl_app (cl_node raw hx) (cl_app ?_ (ih (beh x r) raw (by omega) fun y hy => hc y (List.mem_cons_of_mem _ (by rw [← hib]; exact List.mem_append_right _ hy))))
      split
      · rename_i hh
        exact cl_app (ih (inn x r) _ (by omega) fun y hy => hc y (List.mem_cons_of_mem _ (by rw [← hib]; exact List.mem_append_left _ hy))) (cl_end hx hh)
      · exact cl_nil
theorem legal_rows {s : List ByteArray} : ∀ {l : List Ro}, legB s l = true → (∃ m, Ro.rightFrom m l = true) → ∀ x ∈ l, RowCl x := by
  intro l
  induction l generalizing s with
  | nil => intro _ _ x hx; cases hx
  | cons y r ih =>
    intro h hr x hx
    obtain ⟨m, hr⟩ := hr
    rw [legB] at h
    rw [Ro.rightFrom] at hr
    simp only [Bool.and_eq_true] at h hr
    rcases List.mem_cons.1 hx with rfl | hx
    · refine ⟨fun hk => ?_, fun hk => ?_⟩
      · obtain ⟨_, _, _, h4, h5⟩ := rowB_attrs hk h.1.1 hr.1.2
        exact ⟨cl_of h4, fun a ha => ⟨cl_of (h5 a ha).1, cl_of (h5 a ha).2⟩⟩
      · have h1 := h.1.1
        unfold rowB at h1
        rw [if_neg hk] at h1
        split at h1
        · rw [Bool.and_eq_true] at h1
          exact cl_of h1.2
        · exact cl_of h1
    · exact ih h.2 ⟨_, hr.2⟩ x hx
/-- Legal trees, written, are parsed as they were. -/
theorem legal_back {l : List Ro} (h : legalB l = true) (hl : l.length ≤ 4096) : treeB ⟨[], []⟩ (Tm.within [] (rdy (insideB l (-1)))) = some l := by
  obtain ⟨h1, h2⟩ := legal_tr h hl
  obtain ⟨_, p2, _, p4⟩ := legal_parts h
  have hc := cl_wr l.length l false (Nat.le_refl _) (legal_rows p4 ⟨0, p2⟩)
  rw [inside_all (depth_right p2), cl_rdy hc]
  have hw : Tm.within [] (wr false l) = Tm.cut (wr false l) := Tm.within_nil _
  rw [hw]
  exact back h1 h2

end Go.Proofs.YtenmlpfjeohkiaaGreatDoor.Wm

namespace Go.Proofs.YtenmlpfjeohkiaaGreatDoor.Bu
set_option maxRecDepth 100000
set_option linter.unusedVariables false
set_option linter.unusedSimpArgs false
open Go.RowKit Ba Fm Fo Nm Bm
open Ro (At Ro Cw ros Fr Ow Rv cells)
open Tm (Tk within bulk bulkT bulkA)
open To (Tw tks)
open Re (Tab)
theorem readyW (s : ByteArray) (w : World) (hs : s.size ≤ 65536) :
    Calls Tryz.prog 31 #[.string s] w fun e w' => e = .returned (.string (B (rdy (L s)))) ∧ Below w.heap.size w w' := by
  have hsz := size_L s
  have hdl := Ch.len_dL (L s)
  refine (Ch.ready_any s w (by omega) (show (Ch.dL (L s)).length ≤ _ from by omega)).mono ?_
  rintro e w1 ⟨rfl, b1⟩
  exact ⟨rfl, b1⟩
set_option maxRecDepth 100000 in
set_option maxHeartbeats 1000000 in
theorem InW_any (s nm : ByteArray) (w : World) (hs : s.size ≤ 65536) (hn : nm.size ≤ 140737488351232) (hT : Tab w) (hwl : (within (L nm) (rdy (L s))).length ≤ 200000) :
    Calls Tryz.prog 13 #[.string s, .string nm] w fun e w' => SaysM w (treeB ⟨[], []⟩ (within (L nm) (rdy (L s)))) e w' := by
  have h : decide ((65536 : Int) < (s.size : Int)) = false := decide_eq_false (by omega)
  have hsz := size_L s
  have hdl := Ch.len_dL (L s)
  have hrl := len_rdy (L s)
  have HT := Lib.hid hT
  clear hT
  go_enter Tryz.func13, Tryz.ntmps13
  go_wp2_with fail
  refine (readyW s w hs).mono ?_
  rintro e w1 ⟨rfl, b1⟩
  have hT1 := HT.out.below b1
  have HB1 := Lib.hid b1
  clear b1
  go_wp2_with fail
  refine (To.In_any (B (rdy (L s))) nm w1 (by rw [size_B]; omega) hn hT1).mono ?_
  rintro e w2 ⟨V, l, rfl, ho, hl, b2⟩
  rw [L_B] at hl
  obtain ⟨A, c, rfl, hc, _, _, hr⟩ := ho.form
  have hwb := Tm.bulk_within (L nm) (rdy (L s))
  have hl' : tks l = within (L nm) (rdy (L s)) := hl
  have hll : l.length ≤ 200000 := by rw [← To.len_tks, hl']; omega
  have hds : dsum (tks l) ≤ 1000000000 := by
    have := dsum_bulk (tks l)
    rw [hl'] at this ⊢
    omega
  have hat : ∀ x ∈ l, x.tk.attrs.length ≤ 1000000 := fun x hx => by
    have h1 := Tm.bulk_mem (l := tks l) (t := x.tk) (List.mem_map.2 ⟨x, hx, rfl⟩)
    rw [hl'] at h1
    unfold bulkT at h1
    omega
  have HL := Lib.hid hl'; have HR := Lib.hid hr; have HB2 := Lib.hid (bt HB1.out b2)
  clear hl hl' hr ho b2 hwb hT1 hdl hrl hsz hwl
  go_wp2_with fail
  refine (Tree_any A c l w2 HR.out hc hll hds hat).mono ?_
  intro e w3 h3
  rw [HL.out] at h3
  rcases h3.cases with ⟨ht, rfl, b3⟩ | ⟨o, v, y, ht, rfl, how, hfr, hros, hmi, b3⟩
  · have HTR := Lib.hid ht
    clear ht h3
    go_wp2
    go_ret2
    rw [HTR.out]
    exact ⟨rfl, bt HB2.out b3⟩
  · have HTR := Lib.hid ht; have HO := Lib.hid how; have HRO := Lib.hid hros; have HB3 := Lib.hid (bt HB2.out b3)
    clear ht h3 how hfr hros b3
    go_wp2
    go_ret2
    rw [HTR.out]
    exact ⟨⟨v, y, rfl, HO.out.rv (by rw [HRO.out]; exact tree_held HTR.out), HRO.out, hmi⟩, HB3.out⟩

theorem InW1 (s nm : ByteArray) (w : World) (r : Option (List Ro)) (hs : s.size ≤ 65536) (hn : nm.size ≤ 140737488351232) (hT : Tab w) (hwl : (within (L nm) (rdy (L s))).length ≤ 200000) (hr : treeB ⟨[], []⟩ (within (L nm) (rdy (L s))) = r) :
    Calls Tryz.prog 13 #[.string s, .string nm] w fun e w' => Says w r e w' := by
  subst hr
  refine (InW_any s nm w hs hn hT hwl).mono ?_
  rintro e w' ⟨h1, h2⟩
  refine ⟨?_, h2⟩
  cases ht : treeB ⟨[], []⟩ (within (L nm) (rdy (L s))) with
  | none => rw [ht] at h1; exact h1
  | some o =>
    rw [ht] at h1
    obtain ⟨v, y, a, b, c, _⟩ := h1
    exact ⟨v, y, a, b, c⟩
theorem ParseW1 (s : ByteArray) (w : World) (r : Option (List Ro)) (hs : s.size ≤ 65536) (hT : Tab w) (hwl : (within [] (rdy (L s))).length ≤ 200000) (hr : treeB ⟨[], []⟩ (within [] (rdy (L s))) = r) :
    Calls Tryz.prog 10 #[.string s] w fun e w' => Says w r e w' := by
  go_enter Tryz.func10, Tryz.ntmps10
  go_wp2_with fail
  refine (InW1 s _ w r hs (by decide) hT hwl hr).mono ?_
  intro e w1 h1
  cases r with
  | none =>
    obtain ⟨rfl, b1⟩ := h1
    go_wp2
    go_ret2
    exact ⟨rfl, b1⟩
  | some o =>
    obtain ⟨⟨v, y, rfl, hv, hy⟩, b1⟩ := h1
    have HV := Lib.hid hv; have HY := Lib.hid hy
    clear hv hy hr hwl
    go_wp2
    go_ret2
    exact ⟨⟨v, y, rfl, HV.out, HY.out⟩, b1⟩

end Go.Proofs.YtenmlpfjeohkiaaGreatDoor.Bu

namespace Go.Proofs.YtenmlpfjeohkiaaGreatDoor.Re
set_option maxRecDepth 100000
set_option linter.unusedSimpArgs false
set_option linter.unusedVariables false
open Go.ChangeShapes Go.WideShapes Go.ChangeAt Go.RowKit Ba Rm
abbrev laidL : List (String × DataW Unit) := [("bolting/refs.named", Rows.laid_bolting_refs_named)]
theorem gNamed : Tryz.prog.globalNamed "bolting/refs.named" = some 0 := by kernel_rfl
theorem tNamed : (Tryz.prog.globals[0]?).map (·.type) = some 108 := by kernel_rfl
theorem datum : (Rows.laid_bolting_refs_named : DataW Unit) = .agg (tab.map fun p => .agg [.lit (.string p.1), .lit (.int .i64 p.2)]) := by kernel_rfl
theorem c34 : Tryz.prog.cellsOf 107 = 2 := by kernel_rfl
theorem c9 : Tryz.prog.cellsOf 9 = 1 := by kernel_rfl
theorem c3 : Tryz.prog.cellsOf 3 = 1 := by kernel_rfl

theorem door_met (os : Os) (args : Array Value) : laidMetH Tryz.prog laidL ((World.doorLaid Tryz.prog 400 os).forCall (fun _ _ => 0) ⟨#[], args, []⟩).memory :=
  laidMetH_of_parts3 (fuel := 8) (laidMet_of_run' 8 (by kernel_rfl) (by kernel_rfl)) (by kernel_rfl) (by kernel_rfl)

theorem pair_at {W : World} {enc : TypeId × Value → Unit} {sp : Nat → Bool} {hd : Bool} {m : Nat} {cs : List Value} {x : DataW Unit × List MemPlace} {p : List UInt8 × Nat}
    (h : DataW.trod enc Tryz.prog W 0 sp hd m 107 cs = some x) (e : x.1 = .agg [.lit (.string p.1), .lit (.int .i64 p.2)]) : cs = [.string (B p.1), .int .i64 p.2] := by
  obtain ⟨y0, y1, n, rfl, hl, h0, h1⟩ := trod_struct2 Tryz.underlying107 h
  rw [c34] at hl
  simp only [DataW.agg.injEq, List.cons.injEq, and_true] at e
  obtain ⟨e0, e1⟩ := e
  obtain ⟨s, q0, rfl, _⟩ := DataW.trod_string Tryz.underlying9 h0
  obtain ⟨k, q1, rfl, _⟩ := DataW.trod_int Tryz.underlying3 h1
  simp only [DataW.lit.injEq, Lit.string.injEq, Lit.int.injEq, true_and] at e0 e1
  have q0' : (cs.drop 0).take 1 = [.string s] := by rw [← q0]; rw [show Tryz.prog.cellsOf _ = 1 from c9]
  have q1' : (cs.drop 1).take 1 = [.int .i64 k] := by rw [← q1]; rw [show Tryz.prog.cellsOf _ = 1 from c3]
  match cs, hl, q0', q1' with
  | [a, b], _, q0', q1' =>
    simp at q0' q1'
    rw [q0', q1', e1, show s = B p.1 from B_of e0]

set_option maxRecDepth 100000 in
theorem tab_of_laid {W : World} (h : laidMetH Tryz.prog laidL W) : Tab W := by
  rw [MakeChecks.laidMetH_plain _ _ _ (by kernel_rfl)] at h
  obtain ⟨ps, ⟨g0, t0, cs0, f0, p0, q0, hg0, ht0, hv0, hd0, _, _⟩, _, _⟩ := h
  obtain rfl := Option.some.inj (gNamed.symm.trans hg0)
  obtain rfl := Option.some.inj (tNamed.symm.trans ht0)
  rw [datum] at hd0
  obtain ⟨xs, m, rfl, hx, hlen, hn, hel⟩ := DataW.trod_array Tryz.underlying108 hd0
  simp only [Prod.mk.injEq, DataW.agg.injEq] at hx
  have hc : ∀ i, i < 24 → ∀ p, tab[i]? = some p → (cs0.toList.drop (2 * i)).take 2 = [.string (B p.1), .int .i64 p.2] := by
    intro i hi p hp
    have h1 := hel i hi
    rw [c34, Nat.mul_comm i 2] at h1
    have hxi : i < xs.length := by omega
    rw [List.getElem?_eq_getElem hxi] at h1
    refine pair_at h1 ?_
    have h2 := congrArg (fun l => l[i]?) hx.1
    simp only [List.getElem?_map, hp, Option.map_some, List.getElem?_eq_getElem hxi, Option.some.injEq] at h2
    exact h2.symm
  have hcell : ∀ j v, (cellsOf2 tab)[j]? = some v → W.cell? ⟨0, j, none⟩ = some v := by
    intro j v hv
    rw [World.var?_cell hg0 hv0 j, ← Array.getElem?_toList]
    have hj : j < 48 := (List.getElem?_eq_some_iff.1 hv).1
    have hi : j / 2 < 24 := by omega
    obtain ⟨p, hp⟩ : ∃ p, tab[j / 2]? = some p := ⟨_, List.getElem?_eq_getElem (show j / 2 < tab.length from hi)⟩
    have h1 := hc (j / 2) hi p hp
    have h2 : ((cellsOf2 tab).drop (2 * (j / 2))).take 2 = [.string (B p.1), .int .i64 p.2] := by
      rw [cellsOf2_drop]
      have : tab.drop (j / 2) = p :: tab.drop (j / 2 + 1) := by
        rw [List.drop_eq_getElem_cons (show j / 2 < tab.length from hi)]
        congr 1
        rw [List.getElem?_eq_getElem (show j / 2 < tab.length from hi)] at hp
        exact Option.some.inj hp
      rw [this]; rfl
    have h3 : ∀ l : List Value, ((l.drop (2 * (j / 2))).take 2)[j % 2]? = l[j]? := fun l => by
      rw [List.getElem?_take_of_lt (by omega), List.getElem?_drop]
      congr 1
      omega
    rw [← h3, h1, ← h2, h3]
    exact hv
  refine ⟨fun j v hv => by rw [Nat.zero_add]; exact hcell j v hv, ?_⟩
  have h0 := hcell 0 (.string (B [97, 109, 112])) rfl
  cases hz : W.heap.size with
  | succ n => omega
  | zero =>
    have : W.heap[0]? = none := Array.getElem?_eq_none (by omega)
    simp [World.cell?, this] at h0

end Go.Proofs.YtenmlpfjeohkiaaGreatDoor.Re

namespace Go.Proofs.YtenmlpfjeohkiaaGreatDoor.Wm
set_option maxRecDepth 100000
set_option linter.unusedVariables false
set_option linter.unusedSimpArgs false
open Ba Fm Rm Nm Bm
open Ro (At Ro)
open Bu (rdy)
open Wr (insideB)
theorem len_toks (n : Nat) : ∀ l : List Ro, l.length ≤ n → (toks l).length ≤ 2 * l.length := by
  induction n with
  | zero =>
    intro l h
    obtain rfl : l = [] := List.eq_nil_of_length_eq_zero (by omega)
    rw [toks_nil]; exact Nat.le_refl _
  | succ n ih =>
    intro l h
    cases l with
    | nil => rw [toks_nil]; exact Nat.le_refl _
    | cons x r =>
      have hp := len_parts x r
      rw [List.length_cons] at h
      have h1 := ih (inn x r) (by omega)
      have h2 := ih (beh x r) (by omega)
      rw [toks_cons, List.length_cons, List.length_append, List.length_cons]
      split
      · rw [List.length_append]
        simp only [List.length_cons, List.length_nil]
        omega
      · simp only [List.length_nil]
        omega
theorem legal_within {l : List Ro} (h : legalB l = true) (hl : l.length ≤ 4096) : (Tm.within [] (rdy (insideB l (-1)))).length ≤ 2 * l.length := by
  obtain ⟨h1, h2⟩ := legal_tr h hl
  obtain ⟨_, p2, _, p4⟩ := legal_parts h
  have hc := cl_wr l.length l false (Nat.le_refl _) (legal_rows p4 ⟨0, p2⟩)
  rw [inside_all (depth_right p2), cl_rdy hc, Tm.within_nil, cut_wr h1]
  exact len_toks l.length l (Nat.le_refl _)
end Go.Proofs.YtenmlpfjeohkiaaGreatDoor.Wm
namespace Go.Proofs.YtenmlpfjeohkiaaGreatDoor.Wr
set_option maxRecDepth 100000
set_option linter.unusedVariables false
set_option linter.unusedSimpArgs false
open Go.RowKit Ba Fm Fo Nm Wm Bm
open Ro (At Ro Cw ros rowO rowV below_new range2 range5 cells Rv bare rows_new refSame1)
open Re (Tab)
open Bu (ParseW1 Says rdy)
set_option maxRecDepth 100000 in
set_option maxHeartbeats 4000000 in
theorem law_back8 (v0 : Value) (l0 : List Cw) (w : World) (h0 : Rv w v0 l0) (z0 : rsum (ros l0) ≤ 1048576) (hT : Tab w) :
    Calls Tryz.prog 3 #[v0] w fun e w' => e = .returned (.bool true) ∧ Below w.heap.size w w' := by
  have HV0 := Lib.hid h0; have HT := Lib.hid hT
  clear h0 hT
  go_enter Tryz.func3, Tryz.ntmps3
  go_wp2_with fail
  refine (bound8 v0 l0 w HV0.out z0).mono ?_
  rintro e w1 ⟨a, x, rfl, -, hx, -, hxl, hx6, hxz, hb1⟩
  have HX := Lib.hid hx; have HX6 := Lib.hid (few6 hx6); have HB1 := Lib.hid hb1
  clear hx hx6 hb1
  obtain ⟨p, hp⟩ : ∃ p, legalB (ros x) = p := ⟨_, rfl⟩
  have HP := Lib.hid hp
  clear hp
  go_wp2_with fail
  refine (legal8 a x w1 HX.out (by omega) HX6.out (by omega) p HP.out).mono ?_
  rintro e w3 ⟨rfl, hb3⟩
  have HB3 := Lib.hid (bt HB1.out hb3); have HX3 := Lib.hid (HX.out.below hb3)
  clear hb3
  cases p with
  | false =>
    go_wp2_with fail
    refine (fixed8_any w3).mono ?_
    rintro e w4 ⟨rfl, hb4⟩
    have HB4 := Lib.hid (bt HB3.out hb4)
    clear hb4
    go_wp2
    go_ret
    exact ⟨rfl, HB4.out⟩
  | true =>
  obtain ⟨S, hS⟩ : ∃ S, B (insideB (ros x) (-1)) = S := ⟨_, rfl⟩
  have hb := legal_back HP.out (by rw [Ro.len_ros]; omega)
  have hwl := legal_within HP.out (by rw [Ro.len_ros]; omega)
  have hLS : insideB (ros x) (-1) = L S := by rw [← hS, L_B]
  rw [hLS] at hb hwl
  rw [Ro.len_ros] at hwl
  have HS := Lib.hid hS; have HB := Lib.hid hb; have HWL := Lib.hid hwl
  clear hS hb hwl hLS
  go_wp2_with fail
  refine (rows8 a x w3 HX3.out (by omega) (by omega) S HS.out).mono ?_
  rintro e w4 ⟨rfl, hb4⟩
  have HB4 := Lib.hid (bt HB3.out hb4); have HX4 := Lib.hid (HX3.out.below hb4)
  clear hb4
  by_cases hz : S.size ≤ 65536
  · have hz1 : decide ((65536 : Int) < (S.size : Int)) = false := decide_eq_false (by omega)
    go_wp2_with fail
    refine (ParseW1 S w4 (some (ros x)) hz (HT.out.below HB4.out) (by have := HWL.out; omega) HB.out).mono ?_
    rintro e w5 ⟨⟨v5, y5, rfl, hv5, hy5⟩, hb5⟩
    have HB5 := Lib.hid (bt HB4.out hb5); have HX5 := Lib.hid (HX4.out.below hb5); have HV5 := Lib.hid hv5; have HY5 := Lib.hid hy5
    have hyl : y5.length ≤ 40 := by
      have := congrArg List.length hy5
      rw [Ro.len_ros, Ro.len_ros] at this
      omega
    clear hv5 hy5 hb5
    go_wp2_with fail
    refine (refSame1 v5 a y5 x w5 true HV5.out HX5.out (by omega) (by omega) (decide_eq_true HY5.out)).mono ?_
    rintro e w6 ⟨rfl, hb6⟩
    have HB6 := Lib.hid (bt HB5.out hb6)
    clear hb6
    go_wp2_with fail
    refine (fixed8_any w6).mono ?_
    rintro e w7 ⟨rfl, hb7⟩
    have HB7 := Lib.hid (bt HB6.out hb7)
    clear hb7
    go_wp2
    go_ret
    exact ⟨rfl, HB7.out⟩
  · have hz1 : decide ((65536 : Int) < (S.size : Int)) = true := decide_eq_true (by omega)
    go_wp2_with fail
    refine (fixed8_any w4).mono ?_
    rintro e w7 ⟨rfl, hb7⟩
    have HB7 := Lib.hid (bt HB4.out hb7)
    clear hb7
    go_wp2
    go_ret
    exact ⟨rfl, HB7.out⟩

end Go.Proofs.YtenmlpfjeohkiaaGreatDoor.Wr
