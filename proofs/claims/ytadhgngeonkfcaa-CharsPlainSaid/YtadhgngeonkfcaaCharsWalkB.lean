/-
  Walks of stage 1: chars.Decode, chars.Lines, chars.Ready: each returns the string that the plain function of CharsSpec says, where that string and the argument have at most 2^47 bytes.
-/
import Derived.Test.YtadhgngeonkfcaaCharsWalkA
import Derived.WalkLawsBesides
import Derived.Lib.AppendStr
import Derived.WalkSmall
import Derived.Laws.IdiomStrings
namespace Go.Proofs.Ytadhgngeonkfcaa.Ch
open Go.RowKit

def bc (b : UInt8) : Value := .int .u8 b.toNat
/-- v is a slice of bytes of the call's own that holds l. -/
def Own (N : Nat) (w : World) (v : Value) (l : List UInt8) : Prop := w.ownsRow N 5 1 v l.length (l.map bc)

theorem info_u8 : (Try.prog.info? 5).map (fun i => (i.zero, i.size, i.bytes)) = some (some (.int .u8 0), 1, 1) := by kernel_rfl

theorem Own.iterAt {N : Nat} {w : World} {v : Value} {l : List UInt8} (h : Own N w v l) {k : Nat} {s : ByteArray} {pos : Nat} (hk : w.heap[k]? = some (.stringIter s pos)) (pos' : Nat) : Own N (w.iterAt k s pos') v l := by
  refine ⟨h.1, ?_⟩
  rcases h.2 with hn | ⟨g, cap, cur, hv, hb, hg, rest⟩
  · exact .inl hn
  · have hkg : g ≠ k := by
      intro e1
      rw [e1, hk] at hg
      cases hg
    exact .inr ⟨g, cap, cur, hv, hb, (Lib.iterAt_other w k g s pos' hkg).trans hg, rest⟩

theorem Own.iterKept {N : Nat} {w w' : World} {v : Value} {l : List UInt8} (h : Own N w v l) (hg : w.grownBy w' v.ownBlock) {k : Nat} {s : ByteArray} {pos : Nat} (hk : w.heap[k]? = some (.stringIter s pos)) : w'.heap[k]? = some (.stringIter s pos) := by
  have hlt : k < w.heap.size := (Array.getElem?_eq_some_iff.1 hk).1
  rw [hg.block k hlt, hk]
  intro e
  rcases h.2 with ⟨hv, _⟩ | ⟨g, cap, cur, hv, hb, hgg, rest⟩
  · rw [hv] at e; simp [Value.ownBlock] at e
  · rw [hv] at e; simp [Value.ownBlock] at e
    rw [← e, hk] at hgg; cases hgg

theorem Own.below {N : Nat} {w0 w w' : World} {v : Value} {l : List UInt8} (h : Own N w v l) (hg : w.grownBy w' v.ownBlock) (hb : Below N w0 w) (hN : N ≤ w.heap.size) : Below N w0 w' :=
  hb.grown hg hN fun k hk => (h.lt k hk).1

theorem Own.string {N : Nat} {w : World} {v : Value} {l : List UInt8} (h : Own N w v l) : (convert 32 9 v).run Try.prog w = .ok (.string (B l)) w := by
  rcases h.2 with ⟨hv, hl⟩ | ⟨g, cap, cur, hv, hb, hgg, rest⟩
  · have : l = [] := List.eq_nil_of_length_eq_zero hl
    subst this hv
    rw [run_convert_bytes_string w _ _ _ none 0 0 Try.underlying32 Try.underlying5 Try.underlying9]
    rfl
  · subst hv
    exact run_convert_bytes_back w _ _ _ ⟨g, 0, none⟩ cap l Try.underlying32 Try.underlying5 Try.underlying9 fun j hj => World.ownsRow.cells h rfl j _ (by simp [bc, hj])

theorem strCells_L (s : ByteArray) : Lib.strCells s = (L s).map bc := rfl

theorem Own.appended {N : Nat} {w : World} {v : Value} {l m : List UInt8} {n : Nat} (h : w.ownsRow N 5 1 v n (l.map bc ++ m.map bc)) (hn : n = l.length + m.length) : Own N w v (l ++ m) := by
  unfold Own
  rw [List.map_append, List.length_append, ← hn]
  exact h

theorem L_def (s : ByteArray) : L s = s.data.toList := rfl
theorem enc_F : L (Utf8.encode 65533) = F :=
  (L_def _).trans ((congrArg (fun z : Int => (Utf8.encode z).data.toList) (show (65533 : Int) = ((0xFFFD : Nat) : Int) from rfl)).trans F_good.enc)
theorem enc_r (r : Nat) (h : r ≠ 0) : L (Utf8.encode r) = encR r := (L_def _).trans (encR_pos h).symm

set_option maxHeartbeats 1000000 in
theorem decode_any (s : ByteArray) (w : World) (hs : s.size ≤ 140737488355328) (hd : (dL (L s)).length ≤ 140737488355328) :
    Calls Try.prog 13 #[.string s] w fun e w' => e = .returned (.string (B (dL (L s)))) ∧ Below w.heap.size w w' := by
  obtain ⟨i0, hi, hz0, hz1, hz2⟩ := info_parts info_u8
  go_enter Try.func13, Try.ntmps13
  go_wp2_with (at_make; refine wpList_make_own _ rfl (.const (.int .i64 0)) (.tmp 7) 32 rfl w.heap.size 5 i0 (.int .u8 0) 1 Try.underlying32 hi hz0 hz1 .i64 .i64 _ s.size rfl rfl rfl (by rw [hz2]; omega) (by unfold maxLen; omega) (Nat.le_refl _) ?_; intro w1 hown hgrow)
  have hk0 : (w1.iter s 0).heap[w1.heap.size]? = some (.stringIter s 0) := World.iter_heap w1 s 0
  have hb0 : Below w.heap.size w (w1.iter s 0) := ((Below.refl w.heap.size w).grown hgrow (Nat.le_refl _) (by simp)).alloc hgrow.size _
  have ho0 : Own w.heap.size (w1.iter s 0) (.slice (some ⟨w.heap.size, 0, none⟩) 0 s.size) [] := World.ownsRow.alloc hown _
  have hsz1 := hgrow.size
  clear hown hgrow
  have HK0 := Lib.hid hk0; clear hk0
  go_loopw [3, 5] (fun v _ wr => ∃ (pos : Nat) (acc : List UInt8), wr.heap[w1.heap.size]? = some (.stringIter s pos) ∧ Own w.heap.size wr v acc ∧ acc ++ dL ((L s).drop pos) = dL (L s) ∧ Below w.heap.size w wr) (fun _ _ wr => s.size - wr.iterPos w1.heap.size)
  case atStart => exact ⟨0, [], HK0.out, ho0, by simp, hb0⟩
  case round =>
    clear ho0 hb0 HK0
    obtain ⟨pos, acc, hk, hown, hc, hbel⟩ := hrel
    have hpos : wr.iterPos w1.heap.size = pos := iterPos_of hk
    have HC := Lib.hid hc; clear hc
    have HP := Lib.hid hpos; clear hpos
    by_cases hp : pos < s.size
    · have hnx : ∀ ty, (Instr.next (.pointer (some ⟨w1.heap.size, 0, none⟩)) true ty).run Try.prog wr = _ := fun ty => Lib.run_next_any_at wr _ s pos ty hk hp
      have hdp := dec_pos _ (drop_ne s pos hp)
      have hst := dL_step _ (drop_ne s pos hp)
      rw [List.drop_drop] at hst
      rw [← decode_eq] at hst hdp
      have hk' := Lib.iterAt_heap wr w1.heap.size s pos (pos + (Utf8.decode s pos).2) hk
      have hown' := hown.iterAt hk (pos + (Utf8.decode s pos).2)
      have hbel' := Lib.below_iterAt hbel (k := w1.heap.size) hsz1 s (pos + (Utf8.decode s pos).2)
      have hN : w.heap.size ≤ (wr.iterAt w1.heap.size s (pos + (Utf8.decode s pos).2)).heap.size := hbel'.size
      have HS := Lib.hid hst; clear hst
      have HK := Lib.hid hk'; clear hk hk'
      clear hown hbel
      by_cases hr : (Utf8.decode s pos).1 = 0
      · have hrb : (((Utf8.decode s pos).1 : Int) == 0) = true := by rw [hr]; rfl
        have HR := Lib.hid hr; clear hr
        have he : L (Utf8.encode 65533) = F := enc_F
        have hbd : acc.length + (Utf8.encode 65533).size ≤ 140737488355328 := by
          have h1 := congrArg List.length HC.out
          rw [HS.out, HR.out, encR_zero, List.length_append, List.length_append] at h1
          rw [← size_L, he]; omega
        have HE := Lib.hid he; clear he
        go_wp2_with (at_builtin; refine Lib.wpList_append_own_string _ rfl (.tmp 16) (.tmp 18) 32 9 rfl w.heap.size 5 i0 Try.underlying32 Try.underlying9 hi hz0 hz1 hz2 _ acc.length (acc.map bc) rfl hown' _ rfl (by unfold maxLen; omega) hbd hN ?_; intro v2 w2 hown2 hgrow2 _)
        go_roundw
        case rel =>
          refine ⟨pos + (Utf8.decode s pos).2, acc ++ F, hown'.iterKept hgrow2 HK.out, ?_, ?_, hown'.below hgrow2 hbel' hN⟩
          · rw [strCells_L, HE.out] at hown2
            exact Own.appended hown2 (by rw [← size_L, HE.out])
          · rw [← HC.out, HS.out, List.append_assoc]; rw [HR.out, encR_zero]
        case measure =>
          rw [iterPos_of (hown'.iterKept hgrow2 HK.out), HP.out]
          omega
      · have hrb : (((Utf8.decode s pos).1 : Int) == 0) = false := by simpa using fun h => hr (by omega)
        have he : L (Utf8.encode (Utf8.decode s pos).1) = encR (Utf8.decode s pos).1 := enc_r _ hr
        clear hr
        have hbd : acc.length + (Utf8.encode (Utf8.decode s pos).1).size ≤ 140737488355328 := by
          have h1 := congrArg List.length HC.out
          rw [HS.out, List.length_append, List.length_append] at h1
          rw [← size_L, he]; omega
        have HE := Lib.hid he; clear he
        go_wp2_with (at_builtin; refine Lib.wpList_append_own_string _ rfl (.tmp 16) (.tmp 18) 32 9 rfl w.heap.size 5 i0 Try.underlying32 Try.underlying9 hi hz0 hz1 hz2 _ acc.length (acc.map bc) rfl hown' _ rfl (by unfold maxLen; omega) hbd hN ?_; intro v2 w2 hown2 hgrow2 _)
        go_roundw
        case rel =>
          refine ⟨pos + (Utf8.decode s pos).2, acc ++ encR (Utf8.decode s pos).1, hown'.iterKept hgrow2 HK.out, ?_, ?_, hown'.below hgrow2 hbel' hN⟩
          · rw [strCells_L, HE.out] at hown2
            exact Own.appended hown2 (by rw [← size_L, HE.out])
          · rw [← HC.out, HS.out, List.append_assoc]
        case measure =>
          rw [iterPos_of (hown'.iterKept hgrow2 HK.out), HP.out]
          omega
    · have hnx : ∀ ty, (Instr.next (.pointer (some ⟨w1.heap.size, 0, none⟩)) true ty).run Try.prog wr = _ := fun ty => Lib.run_next_end_at wr _ s pos ty hk hp
      have hcv := hown.string
      clear hk
      go_wp2
      go_ret
      refine ⟨ret_str ?_, hbel⟩
      have h1 := HC.out
      rw [drop_nil s pos hp, dL_nil, List.append_nil] at h1
      rw [h1]

end Go.Proofs.Ytadhgngeonkfcaa.Ch
