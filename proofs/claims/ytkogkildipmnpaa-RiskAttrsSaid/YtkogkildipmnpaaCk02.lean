/-
  Walks of stage 2, for later stages: fold.lowerByte, Letter, Lower, Same, Trim, boltingref02.Letter, Lower, Trim.
  Walks of stage 9: link.Strip.
  Walks of stage 9: link.digit, marked; boltingref09.digit.
  Walks of stage 9: link.Percent, boltingref09.Percent.
  Walks of stage 9: link.divided (with its closure), Scheme, Script.
  Walk of stage 9: boltinglaw09.fixed returns true; the contracts of link in the form that the laws use, each answer named.
  Walks of stage 10: Handler, Sink, Element, Attr.
  What a statement's row says of the sizes of strings that lie within slices of structs: each is no greater than the reach.
  Walks of stage 10: Element, Attr, safeElement, Safe.
  Walks of stage 9's reference: Strip, colon, Scheme, Source.
  boltingref02.Has.
  Walks of stage 10: the reference's Handler, plain, pair, Nav, Sink, Attr.
  Stage 10: the calls whose answers the document fixes; the laws RiskNames, RiskAttrs, RiskLinks.
  Stage 10's laws RiskNames, RiskAttrs, RiskLinks: each returns true.
  Stage 10's law RiskHandlers: it returns true.
  Stage 10: the law's bound: forty rows of eight attributes.
  Small laws for the statements' own texts: min of a length, a mask of an int, a cut's size. For every stage from 5 on.
-/
import Derived.Test.YtkogkildipmnpaaCk01
import Derived.Lib.ConvBytes
import Derived.Deep.CutBlock
import Derived.Deep.DeepCutAuto
import Derived.Deep.RegionLaw
import Derived.Laws.BitsAllLaws
import Derived.Deep.AppendLies
import Derived.IntWalk
import Derived.RangeFuncRecord
import Derived.Deep.QuietTactic
import Derived.BigQuiet
import Derived.Deep.RegionHeld3
import Derived.SizedLaws
namespace Go.Proofs.Ytkogkildipmnpaa.Fo
set_option maxRecDepth 100000
set_option linter.unusedSimpArgs false
set_option linter.unusedVariables false
open Go.RowKit Ba Fm

theorem lowerByte_any (c : UInt8) (w : World) :
    Calls Try.prog 40 #[.int .u8 c.toNat] w fun e w' => e = .returned (.int .u8 (low c).toNat) ∧ w = w' := by
  have hc := c.toNat_lt
  by_cases h1 : 65 ≤ c.toNat
  · by_cases h2 : c.toNat ≤ 90
    · have hl : ((low c).toNat : Int) = c.toNat + 32 := by
        unfold low
        rw [if_pos ⟨UInt8.le_iff_toNat_le.2 h1, UInt8.le_iff_toNat_le.2 h2⟩, UInt8.toNat_add]
        simp
        omega
      have HL := Lib.hid hl; clear hl
      go_enter Try.func40, Try.ntmps40
      go_wp2
      go_ret
      exact ⟨ret_int (by rw [HL.out]; omega), rfl⟩
    · have hl : low c = c := by
        unfold low
        rw [if_neg]
        rintro ⟨_, h⟩
        exact h2 (UInt8.le_iff_toNat_le.1 h)
      have HL := Lib.hid hl; clear hl
      go_enter Try.func40, Try.ntmps40
      go_wp2
      go_ret
      exact ⟨ret_int (by rw [HL.out]), rfl⟩
  · have hl : low c = c := by
      unfold low
      rw [if_neg]
      rintro ⟨h, _⟩
      exact h1 (UInt8.le_iff_toNat_le.1 h)
    have HL := Lib.hid hl; clear hl
    go_enter Try.func40, Try.ntmps40
    go_wp2
    go_ret
    exact ⟨ret_int (by rw [HL.out]), rfl⟩

theorem letter_any (c : UInt8) (w : World) :
    Calls Try.prog 38 #[.int .u8 c.toNat] w fun e w' => e = .returned (.bool (lr c)) ∧ w = w' := by
  have hc := c.toNat_lt
  have hl := (low c).toNat_lt
  have hv : lr c = (decide ((97 : Int) ≤ (low c).toNat) && decide (((low c).toNat : Int) ≤ 122)) := by
    have hlow : ((low c).toNat : Int) = if 65 ≤ c.toNat ∧ c.toNat ≤ 90 then c.toNat + 32 else c.toNat := by
      unfold low
      have e1 : (65 ≤ c ∧ c ≤ 90) ↔ (65 ≤ c.toNat ∧ c.toNat ≤ 90) := by rw [UInt8.le_iff_toNat_le, UInt8.le_iff_toNat_le]; exact Iff.rfl
      by_cases h : 65 ≤ c.toNat ∧ c.toNat ≤ 90
      · rw [if_pos (e1.2 h), if_pos h, UInt8.toNat_add]; simp; omega
      · rw [if_neg (fun q => h (e1.1 q)), if_neg h]
    unfold lr
    rw [hlow, Bool.eq_iff_iff]
    simp only [Bool.or_eq_true, Bool.and_eq_true, decide_eq_true_eq, UInt8.le_iff_toNat_le]
    have e65 : (65 : UInt8).toNat = 65 := rfl
    have e90 : (90 : UInt8).toNat = 90 := rfl
    have e97 : (97 : UInt8).toNat = 97 := rfl
    have e122 : (122 : UInt8).toNat = 122 := rfl
    rw [e65, e90, e97, e122]
    split <;> omega
  have HV := Lib.hid hv; clear hv hc
  by_cases h1 : (97 : Int) ≤ (low c).toNat
  · by_cases h2 : ((low c).toNat : Int) ≤ 122
    · go_enter Try.func38, Try.ntmps38
      go_wp2_with (go_at_call 40; refine (lowerByte_any c _).mono ?_; rintro e w' ⟨rfl, rfl⟩)
      go_ret
      exact ⟨ret_bool (by rw [HV.out]; simp [h1, h2]), rfl⟩
    · go_enter Try.func38, Try.ntmps38
      go_wp2_with (go_at_call 40; refine (lowerByte_any c _).mono ?_; rintro e w' ⟨rfl, rfl⟩)
      go_ret
      exact ⟨ret_bool (by rw [HV.out]; simp [h1, h2]), rfl⟩
  · go_enter Try.func38, Try.ntmps38
    go_wp2_with (go_at_call 40; refine (lowerByte_any c _).mono ?_; rintro e w' ⟨rfl, rfl⟩)
    go_ret
    exact ⟨ret_bool (by rw [HV.out, decide_eq_false (by omega)]; rfl), rfl⟩

theorem lr_of (c : UInt8) : lr c = ((decide ((65 : Int) ≤ c.toNat) && decide ((c.toNat : Int) ≤ 90)) || (decide ((97 : Int) ≤ c.toNat) && decide ((c.toNat : Int) ≤ 122))) := by
  unfold lr
  rw [Bool.eq_iff_iff]
  simp only [Bool.or_eq_true, Bool.and_eq_true, decide_eq_true_eq, UInt8.le_iff_toNat_le]
  have e65 : (65 : UInt8).toNat = 65 := rfl
  have e90 : (90 : UInt8).toNat = 90 := rfl
  have e97 : (97 : UInt8).toNat = 97 := rfl
  have e122 : (122 : UInt8).toNat = 122 := rfl
  rw [e65, e90, e97, e122]
  omega

theorem refLetter_any (c : UInt8) (w : World) :
    Calls Try.prog 36 #[.int .u8 c.toNat] w fun e w' => e = .returned (.bool (lr c)) ∧ w = w' := by
  have HV := Lib.hid (lr_of c)
  have hc := c.toNat_lt
  by_cases h1 : (65 : Int) ≤ c.toNat <;> by_cases h2 : (c.toNat : Int) ≤ 90 <;> by_cases h3 : (97 : Int) ≤ c.toNat <;> by_cases h4 : (c.toNat : Int) ≤ 122
  all_goals
    first
    | omega
    | (go_enter Try.func36, Try.ntmps36
       go_wp2
       go_ret
       exact ⟨ret_bool (by rw [HV.out]; simp [h1, h2, h3, h4]), rfl⟩)

set_option maxHeartbeats 1000000 in
theorem lower_any (s : ByteArray) (w : World) (hs : s.size ≤ 140737488355328) :
    Calls Try.prog 39 #[.string s] w fun e w' => e = .returned (.string (B (lowL (L s)))) ∧ Below w.heap.size w w' := by
  obtain ⟨i0, hi, hz0, hz1, hz2⟩ := info_parts info_u8
  go_enter Try.func39, Try.ntmps39
  go_wp2_with (at_make; refine wpList_make_own _ rfl (.const (.int .i64 0)) (.tmp 6) 55 rfl w.heap.size 5 i0 (.int .u8 0) 1 Try.underlying55 hi hz0 hz1 .i64 .i64 _ s.size rfl rfl rfl (by rw [hz2]; omega) (by unfold maxLen; omega) (Nat.le_refl _) ?_; intro w1 hown hgrow)
  have hb0 : Below w.heap.size w w1 := (Below.refl w.heap.size w).grown hgrow (Nat.le_refl _) (by simp)
  have ho0 : OwnB w.heap.size w1 (.slice (some ⟨w.heap.size, 0, none⟩) 0 s.size) [] := hown
  clear hown hgrow
  go_loopw [3, 10] (fun v i wr => ∃ (k : Nat), i = .int .i64 k ∧ k ≤ s.size ∧ OwnB w.heap.size wr v (lowL ((L s).take k)) ∧ Below w.heap.size w wr) (fun _ i _ => s.size - (intOf i).toNat)
  case atStart => exact ⟨0, rfl, Nat.zero_le _, ho0, hb0⟩
  case round =>
    clear ho0 hb0
    obtain ⟨k, rfl, hks, hown, hbel⟩ := hrel
    have hN := hbel.size
    by_cases hp : k < s.size
    · have hlen : (lowL ((L s).take k)).length + 1 ≤ 140737488355328 := by rw [len_lowL, List.length_take, size_L]; omega
      go_wp2_with (first | (go_at_call 40; refine (lowerByte_any s[k] _).mono ?_; rintro e w' ⟨rfl, rfl⟩) | (at_builtin; refine app_byte wr rfl (.tmp 13) (.tmp 18) rfl w.heap.size _ (lowL ((L s).take k)) (low s[k]) rfl hown rfl hlen hN ?_; intro v2 w2 hown2 hk2))
      go_roundw
      case rel =>
        refine ⟨k + 1, by go_num, by omega, ?_, hk2 _ hbel⟩
        rw [take_snoc s k hp, lowL_append]
        exact hown2
      case measure => simp [intOf]; omega
    · have hcv := hown.string
      go_wp2
      go_ret
      refine ⟨ret_str ?_, hbel⟩
      rw [List.take_of_length_le (by rw [size_L]; omega)]

/-- Block g holds these bytes, as a string's conversion lays them. -/
def Raw (w : World) (g : Nat) (l : List UInt8) : Prop := ∃ cs : Array Value, w.heap[g]? = some (.cells cs 5 (cs.size, cs.size + 1)) ∧ l.length ≤ cs.size ∧ ∀ j (h : j < l.length), cs[j]? = some (bc l[j])

theorem Raw.cell {w : World} {g : Nat} {l : List UInt8} (h : Raw w g l) (j : Nat) (hj : j < l.length) : w.cell? ⟨g, j, none⟩ = some (.int .u8 (l[j].toNat : Int)) := by
  obtain ⟨cs, hg, _, hc⟩ := h
  rw [cell_of_row w g j cs _ _ hg, hc j hj]
  rfl
theorem Raw.frozen {w : World} {g : Nat} {l : List UInt8} (h : Raw w g l) (j : Nat) (hj : j < l.length) : w.frozen? ⟨g, j, none⟩ = false := by
  obtain ⟨cs, hg, hl, _⟩ := h
  simp [World.frozen?, hg]
  omega
theorem Raw.set {w : World} {g : Nat} {l : List UInt8} (h : Raw w g l) (j : Nat) (y : UInt8) : Raw (w.setCell ⟨g, j, none⟩ (.int .u8 (y.toNat : Int))) g (l.set j y) := by
  obtain ⟨cs, hg, hl, hc⟩ := h
  refine ⟨cs.setIfInBounds j (.int .u8 (y.toNat : Int)), ?_, by simpa using hl, fun i hi => ?_⟩
  · simp [World.setCell, Array.getElem?_modify, hg]
  · rw [List.length_set] at hi
    rw [Array.getElem?_setIfInBounds, List.getElem_set]
    by_cases hij : j = i
    · subst hij
      simp [bc]
      omega
    · simp [hij, hc i hi]
theorem Raw.string {w : World} {g c : Nat} {l : List UInt8} (h : Raw w g l) : (convert 55 9 (.slice (some ⟨g, 0, none⟩) l.length c)).run Try.prog w = .ok (.string (B l)) w :=
  run_convert_bytes_back w _ _ _ ⟨g, 0, none⟩ c l Try.underlying55 Try.underlying5 Try.underlying9 fun j hj => by
    rw [WideShapes.add_plain, Nat.zero_add]
    exact h.cell j hj
theorem Raw.new (w : World) (s : ByteArray) : Raw (Lib.bytesWorld w 5 s) w.heap.size (L s) := by
  refine ⟨_, Lib.bytesWorld_at_new w _ s, ?_, fun j hj => ?_⟩
  · unfold Lib.bytesCells
    rw [size_L]
    simp
  · rw [size_L] at hj
    simp [Lib.bytesCells, Array.getElem?_append, hj, bc]
theorem below_bytesWorld (w : World) (s : ByteArray) : Below w.heap.size w (Lib.bytesWorld w 5 s) :=
  ⟨rfl, rfl, rfl, by rw [Lib.bytesWorld_size]; omega, fun k hk => Lib.bytesWorld_at_old w _ s k hk⟩

/-- The bytes, the first k of them in small letters. -/
def lowTo (l : List UInt8) (k : Nat) : List UInt8 := lowL (l.take k) ++ l.drop k
theorem lowTo_len (l : List UInt8) (k : Nat) : (lowTo l k).length = l.length := by
  unfold lowTo
  rw [List.length_append, len_lowL, List.length_take, List.length_drop]
  omega
theorem lowTo_get (l : List UInt8) (k : Nat) (h : k < l.length) (h' : k < (lowTo l k).length) : (lowTo l k)[k] = l[k] := by
  have e : (lowTo l k)[k]? = some l[k] := by
    unfold lowTo
    have e0 : (lowL (l.take k)).length = k := by rw [len_lowL, List.length_take]; omega
    rw [List.getElem?_append_right (by omega), e0, Nat.sub_self, List.getElem?_drop, Nat.add_zero, List.getElem?_eq_getElem h]
  rw [List.getElem?_eq_getElem h'] at e
  exact Option.some.inj e
theorem lowTo_set (l : List UInt8) (k : Nat) (h : k < l.length) : (lowTo l k).set k (low l[k]) = lowTo l (k + 1) := by
  unfold lowTo
  have e0 : (lowL (l.take k)).length = k := by rw [len_lowL, List.length_take]; omega
  rw [List.set_append_right _ _ (by omega), e0, Nat.sub_self, List.take_succ_eq_append_getElem h, lowL_append, List.drop_eq_getElem_cons h, List.set_cons_zero, List.append_assoc]
  rfl
theorem lowTo_same (l : List UInt8) (k : Nat) (h : k < l.length) (hl : low l[k] = l[k]) : lowTo l k = lowTo l (k + 1) := by
  unfold lowTo
  rw [List.take_succ_eq_append_getElem h, lowL_append, List.drop_eq_getElem_cons h]
  simp [lowL, hl]

set_option maxHeartbeats 1000000 in
theorem refLower_any (s : ByteArray) (w : World) (hs : s.size ≤ 140737488355328) :
    Calls Try.prog 33 #[.string s] w fun e w' => e = .returned (.string (B (lowL (L s)))) ∧ Below w.heap.size w w' := by
  have hcv := Lib.run_convert_string_bytes (P := Try.prog) w 9 55 5 s (u := .string) Try.underlying9 Try.underlying55 Try.underlying5
  have hr0 := Raw.new w s
  have hb0 := below_bytesWorld w s
  generalize Lib.bytesWorld w 5 s = w1 at *
  generalize grownCap w s.size 0 5 = c at *
  go_enter Try.func33, Try.ntmps33
  go_wp2
  clear hcv
  go_loopw [4] (fun i wr => ∃ (k : Nat), i = .int .i64 k ∧ k ≤ s.size ∧ Raw wr w.heap.size (lowTo (L s) k) ∧ Below w.heap.size w wr) (fun i _ => s.size - (intOf i).toNat)
  case atStart => exact ⟨0, rfl, Nat.zero_le _, hr0, hb0⟩
  case round =>
    clear hr0 hb0
    obtain ⟨k, rfl, hks, hraw, hbel⟩ := hrel
    by_cases hp : k < s.size
    · have hpl : k < (L s).length := by rw [size_L]; exact hp
      have hpl' : k < (lowTo (L s) k).length := by rw [lowTo_len]; exact hpl
      have hcell := hraw.cell k hpl'
      have hfz := hraw.frozen k hpl'
      rw [lowTo_get _ _ hpl] at hcell
      have hcell' : wr.cell? ⟨w.heap.size, k, none⟩ = some (.int .u8 (s[k].toNat : Int)) := hcell
      clear hcell
      have hc := s[k].toNat_lt
      by_cases h1 : (65 : Int) ≤ s[k].toNat
      · by_cases h2 : (s[k].toNat : Int) ≤ 90
        · have hl : ((low s[k]).toNat : Int) = s[k].toNat + 32 := by
            unfold low
            rw [if_pos ⟨UInt8.le_iff_toNat_le.2 (by have e : (65 : UInt8).toNat = 65 := rfl; omega), UInt8.le_iff_toNat_le.2 (by have e : (90 : UInt8).toNat = 90 := rfl; omega)⟩, UInt8.toNat_add]
            simp
            omega
          have hset := hraw.set k (low s[k])
          have hls : (lowTo (L s) k).set k (low s[k]) = lowTo (L s) (k + 1) := lowTo_set (L s) k hpl
          rw [hls, hl] at hset
          have hbs : Below w.heap.size w (wr.setCell ⟨w.heap.size, k, none⟩ (.int .u8 (s[k].toNat + 32))) := hbel.setCell (Nat.le_refl _) _
          have HS := Lib.hid hset; clear hset hl hls
          go_wp2
          go_roundw
          case rel => exact ⟨k + 1, by go_num, by omega, HS.out, hbs⟩
          case measure => simp [intOf]; omega
        · have hl : low s[k] = s[k] := by
            unfold low
            rw [if_neg]
            rintro ⟨_, h⟩
            have := UInt8.le_iff_toNat_le.1 h
            have e : (90 : UInt8).toNat = 90 := rfl
            omega
          have hsame := lowTo_same _ _ hpl hl
          rw [hsame] at hraw
          clear hl hsame
          go_wp2
          go_roundw
          case rel => exact ⟨k + 1, by go_num, by omega, hraw, hbel⟩
          case measure => simp [intOf]; omega
      · have hl : low s[k] = s[k] := by
          unfold low
          rw [if_neg]
          rintro ⟨h, _⟩
          have := UInt8.le_iff_toNat_le.1 h
          have e : (65 : UInt8).toNat = 65 := rfl
          omega
        have hsame := lowTo_same _ _ hpl hl
        rw [hsame] at hraw
        clear hl hsame
        go_wp2
        go_roundw
        case rel => exact ⟨k + 1, by go_num, by omega, hraw, hbel⟩
        case measure => simp [intOf]; omega
    · obtain rfl : k = s.size := by omega
      have hcv := hraw.string (c := c)
      rw [lowTo_len, size_L] at hcv
      go_wp2
      go_ret
      refine ⟨ret_str ?_, hbel⟩
      unfold lowTo
      rw [List.take_of_length_le (by rw [size_L]; exact Nat.le_refl _), List.drop_eq_nil_of_le (by rw [size_L]; exact Nat.le_refl _), List.append_nil]

end Go.Proofs.Ytkogkildipmnpaa.Fo

namespace Go.Proofs.Ytkogkildipmnpaa.Lk
set_option maxRecDepth 100000
set_option linter.unusedSimpArgs false
set_option linter.unusedVariables false
open Go.RowKit Ba Fm Fo
theorem edge_of (c : UInt8) : edge c = decide ((c.toNat : Int) ≤ 32) := by
  unfold edge
  rw [Bool.eq_iff_iff, decide_eq_true_eq, decide_eq_true_eq, UInt8.le_iff_toNat_le]
  have e : (32 : UInt8).toNat = 32 := rfl
  rw [e]
  omega
/-- Of a text's piece, cut at the end. -/
theorem piece_cut (s : ByteArray) (k m : Nat) (hk : k < m) (hm : m ≤ s.size) : ((L s).drop k).take (m - k) = ((L s).drop k).take (m - 1 - k) ++ [s[m - 1]'(by omega)] := by
  have e : m - k = (m - 1 - k) + 1 := by omega
  rw [e, List.take_succ_eq_append_getElem (by rw [List.length_drop, size_L]; omega)]
  congr 2
  rw [List.getElem_drop]
  have : k + (m - 1 - k) = m - 1 := by omega
  simp only [this]
  rfl
theorem piece_next (s : ByteArray) (k j : Nat) (hk : k ≤ j) (hj : j < s.size) : ((L s).drop k).take (j + 1 - k) = ((L s).drop k).take (j - k) ++ [s[j]] := by
  have h := piece_cut s k (j + 1) (by omega) (by omega)
  have e : j + 1 - 1 = j := by omega
  simp only [e] at h
  exact h

set_option maxHeartbeats 4000000 in
theorem strip_any (s : ByteArray) (w : World) (hs : s.size ≤ 140737488355328) :
    Calls Try.prog 35 #[.string s] w fun e w' => e = .returned (.string (B (stripL (L s)))) ∧ Below w.heap.size w w' := by
  obtain ⟨i0, hi, hz0, hz1, hz2⟩ := info_parts info_u8
  go_enter Try.func35, Try.ntmps35
  go_upto_block 0 with fail
  go_cut [3] from 9 to 19 (fun sl wx => ∃ k : Nat, sl = .int .i64 k ∧ k ≤ s.size ∧ frontL (L s) = (L s).drop k ∧ wx = w)
  case first =>
    go_wp2
    go_loop [3] (fun i => ∃ k : Nat, i = .int .i64 k ∧ k ≤ s.size ∧ frontL ((L s).drop k) = frontL (L s)) (fun i => s.size - (intOf i).toNat)
    case atStart => exact ⟨0, rfl, Nat.zero_le _, by rw [List.drop_zero]⟩
    case round =>
      obtain ⟨k, rfl, hks, hc⟩ := hrel
      by_cases hp : k < s.size
      · have he := edge_of s[k]
        rw [drop_cons s k hp] at hc
        cases hed : edge s[k] with
        | true =>
          rw [front_yes _ hed] at hc
          rw [hed] at he
          have h32 : (s[k].toNat : Int) ≤ 32 := of_decide_eq_true he.symm
          have HC := Lib.hid hc; clear hc hed he
          go_wp2
          go_round
          case rel => exact ⟨k + 1, by go_num, by omega, HC.out⟩
          case measure => simp [intOf]; omega
        | false =>
          rw [front_no _ hed, ← drop_cons s k hp] at hc
          rw [hed] at he
          have h32 : ¬ (s[k].toNat : Int) ≤ 32 := of_decide_eq_false he.symm
          have h33 : 32 < (s[k].toNat : Int) := by omega
          have HC := Lib.hid hc; clear hc hed he h32
          go_wp2
          go_meet
          exact ⟨k, rfl, hks, HC.out.symm, rfl⟩
      · rw [drop_nil s k hp] at hc
        have hk : frontL (L s) = (L s).drop k := by rw [← hc, drop_nil s k hp]; rfl
        have HC := Lib.hid hk; clear hc hk
        go_wp2
        go_meet
        exact ⟨k, rfl, hks, HC.out, rfl⟩
  case rest =>
  obtain ⟨k, rfl, hk, hf, hwx⟩ := hcut
  have hwx := hwx.symm
  subst hwx
  have HF := Lib.hid hf; clear hf
  go_upto_block 2 with fail
  go_cut [4] from 20 to 31 (fun sl wx => ∃ m : Nat, sl = .int .i64 m ∧ k ≤ m ∧ m ≤ s.size ∧ backL (frontL (L s)) = ((L s).drop k).take (m - k) ∧ wx = w)
  case first =>
    go_wp2
    go_loop [4] (fun i => ∃ m : Nat, i = .int .i64 m ∧ k ≤ m ∧ m ≤ s.size ∧ backL (((L s).drop k).take (m - k)) = backL (frontL (L s))) (fun i => (intOf i).toNat)
    case atStart => exact ⟨s.size, rfl, hk, Nat.le_refl _, by rw [List.take_of_length_le (by rw [List.length_drop, size_L]; omega), HF.out]⟩
    case round =>
      obtain ⟨m, rfl, hkm, hms, hd⟩ := hrel
      by_cases hq : k < m
      · have hm1 : 1 ≤ m := by omega
        obtain ⟨j, rfl⟩ : ∃ j, m = j + 1 := ⟨m - 1, by omega⟩
        have hjs : j < s.size := by omega
        have hcut : ((L s).drop k).take (j + 1 - k) = ((L s).drop k).take (j - k) ++ [s[j]] := piece_cut s k (j + 1) hq hms
        have he := edge_of s[j]
        cases hed : edge s[j] with
        | true =>
          rw [hcut, back_yes _ hed] at hd
          rw [hed] at he
          have h32 : (s[j].toNat : Int) ≤ 32 := of_decide_eq_true he.symm
          have HD := Lib.hid hd; clear hd hed he hcut
          go_wp2
          go_round
          case rel => exact ⟨j, by go_num, by omega, by omega, HD.out⟩
          case measure => simp [intOf]
        | false =>
          rw [hcut, back_no _ hed, ← hcut] at hd
          rw [hed] at he
          have h32 : ¬ (s[j].toNat : Int) ≤ 32 := of_decide_eq_false he.symm
          have h33 : 32 < (s[j].toNat : Int) := by omega
          have HD := Lib.hid hd; clear hd hed he hcut h32
          go_wp2
          go_meet
          exact ⟨j + 1, rfl, hkm, hms, HD.out.symm, rfl⟩
      · obtain rfl : m = k := by omega
        rw [Nat.sub_self, List.take_zero] at hd
        have HD := Lib.hid hd; clear hd
        go_wp2
        go_meet
        exact ⟨m, rfl, Nat.le_refl _, hms, by rw [Nat.sub_self, List.take_zero]; exact HD.out.symm, rfl⟩
  case rest =>
  obtain ⟨m, rfl, hkm, hms, hb, hwx⟩ := hcut
  have hwx := hwx.symm
  subst hwx
  obtain ⟨c, hc⟩ : ∃ c, m - k = c := ⟨_, rfl⟩
  have hsub : (m : Int) - k = (c : Int) := by omega
  have hcs : c ≤ s.size := by omega
  have hfin : stripL (L s) = kept (((L s).drop k).take (m - k)) := by unfold stripL; rw [hb]
  have HFIN := Lib.hid hfin; clear hb hfin hc
  go_wp2_with (at_make; refine wpList_make_own _ rfl (.const (.int .i64 0)) (.tmp 34) 55 rfl w.heap.size 5 i0 (.int .u8 0) 1 Try.underlying55 hi hz0 hz1 .i64 .i64 _ c rfl rfl rfl (by rw [hz2]; omega) (by unfold maxLen; omega) (Nat.le_refl _) ?_; intro w1 hown hgrow)
  have hb0 : Below w.heap.size w w1 := (Below.refl w.heap.size w).grown hgrow (Nat.le_refl _) (by simp)
  have ho0 : OwnB w.heap.size w1 (.slice (some ⟨w.heap.size, 0, none⟩) 0 c) [] := hown
  clear hown hgrow hsub
  go_loopw [5, 6] (fun v i wr => ∃ (j : Nat), i = .int .i64 j ∧ k ≤ j ∧ j ≤ m ∧ OwnB w.heap.size wr v (kept (((L s).drop k).take (j - k))) ∧ Below w.heap.size w wr) (fun _ i _ => m - (intOf i).toNat)
  case atStart => exact ⟨k, rfl, Nat.le_refl _, hkm, by rw [Nat.sub_self, List.take_zero]; exact ho0, hb0⟩
  case round =>
    clear ho0 hb0
    obtain ⟨j, rfl, hkj, hjm, hown, hbel⟩ := hrel
    have hN := hbel.size
    by_cases hp : j < m
    · have hnext := piece_next s k j hkj (by omega)
      have hlen : (kept (((L s).drop k).take (j - k))).length + 1 ≤ 140737488355328 := by
        have := kept_len (((L s).drop k).take (j - k))
        rw [List.length_take] at this
        omega
      have hjs : j < s.size := by omega
      have e9 : ((s[j].toNat : Int) == 9) = (s[j] == 9) := u8_eq (b := 9)
      have e10 : ((s[j].toNat : Int) == 10) = (s[j] == 10) := u8_eq (b := 10)
      have e13 : ((s[j].toNat : Int) == 13) = (s[j] == 13) := u8_eq (b := 13)
      have hkn : kept (((L s).drop k).take (j + 1 - k)) = kept (((L s).drop k).take (j - k)) ++ kept [s[j]] := by rw [hnext, kept_append]
      have HO := Lib.hid hown; have HB := Lib.hid hbel
      clear hown hbel hnext
      cases hin : inn s[j] with
      | true =>
        rw [kept_yes hin, List.append_nil] at hkn
        have HK := Lib.hid hkn; clear hkn
        unfold inn at hin
        cases h9 : s[j] == 9 with
        | true =>
          rw [h9] at e9
          clear h9 hin e10 e13
          go_wp2
          go_roundw
          case rel => exact ⟨j + 1, by go_num, by omega, by omega, by rw [HK.out]; exact HO.out, HB.out⟩
          case measure => simp [intOf]; omega
        | false =>
        cases h10 : s[j] == 10 with
        | true =>
          rw [h9] at e9
          rw [h10] at e10
          clear h9 h10 hin e13
          go_wp2
          go_roundw
          case rel => exact ⟨j + 1, by go_num, by omega, by omega, by rw [HK.out]; exact HO.out, HB.out⟩
          case measure => simp [intOf]; omega
        | false =>
          have h13 : s[j] == 13 := by rw [h9, h10] at hin; simpa using hin
          rw [h9] at e9
          rw [h10] at e10
          rw [h13] at e13
          clear h9 h10 hin h13
          go_wp2
          go_roundw
          case rel => exact ⟨j + 1, by go_num, by omega, by omega, by rw [HK.out]; exact HO.out, HB.out⟩
          case measure => simp [intOf]; omega
      | false =>
        rw [kept_no hin] at hkn
        have HK := Lib.hid hkn; clear hkn
        unfold inn at hin
        simp only [Bool.or_eq_false_iff] at hin
        rw [hin.1.1] at e9
        rw [hin.1.2] at e10
        rw [hin.2] at e13
        clear hin
        go_wp2_with (at_builtin; refine app_byte wr rfl (.tmp 49) (.tmp 53) rfl w.heap.size _ (kept (((L s).drop k).take (j - k))) s[j] rfl HO.out rfl hlen hN ?_; intro v2 w2 hown2 hk2)
        go_roundw
        case rel => exact ⟨j + 1, by go_num, by omega, by omega, by rw [HK.out]; exact hown2, hk2 _ HB.out⟩
        case measure => simp [intOf]; omega
    · obtain rfl : j = m := by omega
      have hcv := hown.string
      have HB := Lib.hid hbel
      clear hown hbel
      go_wp2
      go_ret
      exact ⟨ret_str (by rw [HFIN.out]), HB.out⟩

end Go.Proofs.Ytkogkildipmnpaa.Lk

namespace Go.Proofs.Ytkogkildipmnpaa.Lk
set_option maxRecDepth 100000
set_option linter.unusedSimpArgs false
set_option linter.unusedVariables false
open Go.RowKit Ba Fm Fo
/-- A digit's number in the reference: below 0 it is none. -/
def rd (c : UInt8) : Int := if hb c = true then (hv c : Int) else -1
end Go.Proofs.Ytkogkildipmnpaa.Lk

namespace Go.Proofs.Ytkogkildipmnpaa.Lk
set_option maxRecDepth 100000
set_option linter.unusedSimpArgs false
set_option linter.unusedVariables false
open Go.RowKit Ba Fm Fo
end Go.Proofs.Ytkogkildipmnpaa.Lk

namespace Go.Proofs.Ytkogkildipmnpaa.Lk
set_option maxRecDepth 100000
set_option linter.unusedSimpArgs false
set_option linter.unusedVariables false
open Go.RowKit Ba Fm Fo
theorem oth_of (c : UInt8) : oth c = ((decide ((48 : Int) ≤ c.toNat) && decide ((c.toNat : Int) ≤ 57)) || (c == 43) || (c == 45) || (c == 46)) := by
  unfold oth
  congr 3
  rw [Bool.eq_iff_iff]
  simp only [Bool.and_eq_true, decide_eq_true_eq, UInt8.le_iff_toNat_le]
  have e48 : (48 : UInt8).toNat = 48 := rfl
  have e57 : (57 : UInt8).toNat = 57 := rfl
  rw [e48, e57]
  omega
theorem letter1 (c : UInt8) (w : World) (q : Bool) (h : lr c = q) : Calls Try.prog 38 #[.int .u8 c.toNat] w fun e w' => e = .returned (.bool q) ∧ w = w' := by
  have k := letter_any c w
  rw [h] at k
  exact k

set_option maxHeartbeats 2000000 in
/-- The closure: may the byte at k stand in a scheme there? -/
theorem stands_any (p k : Nat) (s : ByteArray) (w : World) (hk : k < s.size) (hs : s.size ≤ 140737488355328) (hc : w.cell? ⟨p, 0, none⟩ = some (.string s)) (q : Bool) (hq : sch (decide (0 < k)) s[k] = q) :
    Calls Try.prog 37 #[.int .i64 k, .pointer (some ⟨p, 0, none⟩)] w fun e w' => e = .returned (.bool q) ∧ w = w' := by
  have e43 : ((s[k].toNat : Int) == 43) = (s[k] == 43) := u8_eq (b := 43)
  have e45 : ((s[k].toNat : Int) == 45) = (s[k] == 45) := u8_eq (b := 45)
  have e46 : ((s[k].toNat : Int) == 46) = (s[k] == 46) := u8_eq (b := 46)
  unfold sch at hq
  rw [oth_of] at hq
  obtain ⟨l0, hl0⟩ : ∃ l0, lr s[k] = l0 := ⟨_, rfl⟩
  obtain ⟨p0, hp0⟩ : ∃ p0, decide (0 < k) = p0 := ⟨_, rfl⟩
  rw [hl0, hp0] at hq
  have HL := Lib.hid hl0; clear hl0
  cases l0 with
  | true =>
    have HQ := Lib.hid hq; clear hq hp0 e43 e45 e46
    go_enter Try.func37, Try.ntmps37
    go_wp2_with fail
    refine (letter1 s[k] _ _ HL.out).mono ?_
    rintro e w' ⟨rfl, rfl⟩
    go_wp2
    go_ret
    exact ⟨ret_bool (by rw [← HQ.out]; rfl), rfl⟩
  | false =>
    by_cases h48 : (48 : Int) ≤ s[k].toNat <;> by_cases h57 : (s[k].toNat : Int) ≤ 57 <;> cases h43 : (s[k] == 43) <;> cases h45 : (s[k] == 45) <;> cases h46 : (s[k] == 46)
    all_goals
      rw [h43] at e43 hq
      rw [h45] at e45 hq
      rw [h46] at e46 hq
      have hq' : (false || (p0 && ((decide ((48 : Int) ≤ s[k].toNat) && decide ((s[k].toNat : Int) ≤ 57)) || _ || _ || _))) = q := hq
      have HQ := Lib.hid hq'; have H48 := Lib.hid h48; have H57 := Lib.hid h57; have HP0 := Lib.hid hp0
      clear hq hq' h43 h45 h46 hp0
      go_enter Try.func37, Try.ntmps37
      go_wp2_with fail
      refine (letter1 s[k] _ _ HL.out).mono ?_
      rintro e w' ⟨rfl, rfl⟩
      go_wp2
      all_goals go_ret
      all_goals exact ⟨ret_bool (by rw [← HQ.out]; simp [H48.out, H57.out, HP0.out]), rfl⟩

/-- What divided answers. -/
def divV (s : ByteArray) : Option Nat → Value
  | none => .tuple #[.string ⟨#[]⟩, .string ⟨#[]⟩, .bool false]
  | some k => .tuple #[.string (B (lowL ((L s).take k))), .string (s.extract (k + 1) s.size), .bool true]

set_option maxHeartbeats 4000000 in
theorem divided1 (s : ByteArray) (w : World) (hs : s.size ≤ 140737488355328) (o : Option Nat) (ho : colonL (L s) = o) :
    Calls Try.prog 34 #[.string s] w fun e w' => e = .returned (divV s o) ∧ Below w.heap.size w w' := by
  have hmf : ∀ (fn : Fn) (first cap : Array Value) (w : World), (Instr.makeFunc fn first cap).run Try.prog w = .ok (.func fn first cap) w := fun _ _ _ _ => rfl
  obtain ⟨w0, hw0⟩ : ∃ w0, w.alloc (.cells #[.string s] 9) = w0 := ⟨_, rfl⟩
  have hb0 : Below w.heap.size w w0 := by rw [← hw0]; exact (Below.refl _ _).alloc (Nat.le_refl _) _
  have hc0 : w0.cell? ⟨w.heap.size, 0, none⟩ = some (.string s) := by
    rw [← hw0, World.cell?_alloc_at _ _ _ _ (by simp)]; rfl
  have HW := Lib.hid hw0; clear hw0
  have HO := Lib.hid ho; clear ho
  go_enter Try.func34, Try.ntmps34
  go_upto_block 0 with fail
  rw [HW.out]
  go_cut [6] from 8 to 18 (fun sl wx => ∃ k : Nat, sl = .int .i64 k ∧ k ≤ s.size ∧ (st false (L s)).length = k ∧ wx = w0)
  case first =>
    go_wp2
    go_loop [6] (fun i => ∃ k : Nat, i = .int .i64 k ∧ k ≤ s.size ∧ Lk.upTo (L s) k) (fun i => s.size - (intOf i).toNat)
    case atStart => exact ⟨0, rfl, Nat.zero_le _, upTo_zero _⟩
    case round =>
      obtain ⟨k, rfl, hks, hu⟩ := hrel
      by_cases hp : k < s.size
      · have hpl : k < (L s).length := by rw [size_L]; exact hp
        have hg : (L s)[k] = s[k] := rfl
        cases hq : sch (decide (0 < k)) s[k] with
        | true =>
          have HN := Lib.hid (upTo_next hu hpl (by rw [hg]; exact hq)); have HQ := Lib.hid hq; clear hu hq hg
          go_wp2_with fail
          refine (stands_any w.heap.size k s w0 hp hs hc0 true HQ.out).mono ?_
          rintro e w' ⟨rfl, rfl⟩
          go_wp2
          go_round
          case rel => exact ⟨k + 1, by go_num, by omega, HN.out⟩
          case measure => simp [intOf]; omega
        | false =>
          have HN := Lib.hid (upTo_stop hu hpl (by rw [hg]; exact hq)); have HQ := Lib.hid hq; clear hu hq hg
          go_wp2_with fail
          refine (stands_any w.heap.size k s w0 hp hs hc0 false HQ.out).mono ?_
          rintro e w' ⟨rfl, rfl⟩
          go_wp2
          go_meet
          exact ⟨k, rfl, hks, HN.out, rfl⟩
      · have HN := Lib.hid (upTo_end hu (by rw [size_L]; omega)); clear hu
        go_wp2
        go_meet
        exact ⟨k, rfl, hks, HN.out, rfl⟩
  case rest =>
  obtain ⟨k, rfl, hk, hf, hwx⟩ := hcut
  have hwx := hwx.symm
  subst hwx
  have HF := Lib.hid hf; clear hf hmf
  have hno : ∀ d : Bool, ((k : Int) == 0) = d → d = decide (k = 0) := fun d h => by rw [← h, Bool.eq_iff_iff]; simp
  have hne : ∀ d : Bool, ((k : Int) == (s.size : Int)) = d → d = decide (k = s.size) := fun d h => by rw [← h, Bool.eq_iff_iff]; simp; omega
  by_cases h0 : k = 0
  · have ho := colon_not HF.out (.inl h0)
    rw [HO.out] at ho
    subst ho
    subst h0
    clear hno hne
    go_wp2
    go_ret3
    exact ⟨rfl, hb0⟩
  · have e0 : ((k : Int) == 0) = false := by rw [hno _ rfl]; exact decide_eq_false h0
    by_cases hks : k = s.size
    · have e1 : ((k : Int) == (s.size : Int)) = true := by rw [hne _ rfl]; exact decide_eq_true hks
      have ho := colon_not HF.out (.inr (.inl (by rw [size_L]; exact hks)))
      rw [HO.out] at ho
      subst ho
      clear hno hne hks h0
      go_wp2
      go_ret3
      exact ⟨rfl, hb0⟩
    · have e1 : ((k : Int) == (s.size : Int)) = false := by rw [hne _ rfl]; exact decide_eq_false hks
      have hp : k < s.size := by omega
      have e58 : ((s[k].toNat : Int) != 58) = !(s[k] == 58) := by rw [← u8_eq]; rfl
      cases h58 : s[k] == 58 with
      | false =>
        rw [h58] at e58
        have ho := colon_not HF.out (.inr (.inr ⟨by rw [size_L]; exact hp, by show s[k] ≠ 58; simpa using h58⟩))
        rw [HO.out] at ho
        subst ho
        clear h58 hno hne hks h0
        go_wp2
        go_ret3
        exact ⟨rfl, hb0⟩
      | true =>
        rw [h58] at e58
        have ho := colon_stop HF.out (by omega) (by rw [size_L]; exact hp) (by show s[k] = 58; simpa using h58)
        rw [HO.out] at ho
        subst ho
        have y1 : IntKind.i64.wrap ((k : Int) + 1) = (k : Int) + 1 := IntWalk.i64_in _ (by omega)
        have z1 : ((k : Int) + 1).toNat = k + 1 := by omega
        have m1 : (0 : Int) ≤ (k : Int) + 1 := by omega
        have m2 : (k : Int) + 1 ≤ s.size := by omega
        have m3 : (0 : Int) ≤ (k : Int) := by omega
        have m4 : (k : Int) ≤ s.size := by omega
        have hxs : (s.extract 0 k).size ≤ 140737488355328 := Nat.le_trans (size_extract _ _ _) hs
        have hLx : lowL (L (s.extract 0 k)) = lowL ((L s).take k) := by rw [L_extract, List.drop_zero, Nat.sub_zero]
        have HX := Lib.hid hLx
        have hlt : w.heap.size < w0.heap.size := by rw [← HW.out]; simp
        have HC0 := Lib.hid hc0; have HB0 := Lib.hid hb0
        clear h58 hno hne hks h0 hLx hb0
        go_wp2
        go_region_held3 (fun w' => w'.cell? ⟨w.heap.size, 0, none⟩ = some (.string s)) (first | exact c2 | exact HC0.out | go_keep) (first
          | (go_at_call 39; refine (lower_any (s.extract 0 k) _ hxs).mono ?_; rintro e w2 ⟨rfl, b2⟩; have c2 := (b2.cell (p := ⟨w.heap.size, 0, none⟩) hlt).trans HC0.out; have HB2 := Lib.hid b2; clear b2))
        all_goals go_wp2
        all_goals go_ret3
        all_goals exact ⟨by rw [HX.out]; rfl, bt HB0.out (by first | exact HB2.out | exact ⟨HB2.out.os, HB2.out.tape, HB2.out.output, HB2.out.size, HB2.out.block⟩)⟩

/-- What Scheme answers. -/
def schemeV (o : Option (List UInt8)) : Value := .tuple #[.string (B (o.getD [])), .bool o.isSome]
set_option maxHeartbeats 2000000 in
theorem scheme_any (s : ByteArray) (w : World) (hs : s.size ≤ 140737488355328) :
    Calls Try.prog 30 #[.string s] w fun e w' => e = .returned (schemeV (schemeO (L s))) ∧ Below w.heap.size w w' := by
  obtain ⟨t, ht⟩ : ∃ t, B (stripL (L s)) = t := ⟨_, rfl⟩
  have hL : L t = stripL (L s) := by rw [← ht, L_B]
  have hts : t.size ≤ 140737488355328 := by rw [← size_L, hL]; exact Nat.le_trans (strip_len _) (by rw [size_L]; exact hs)
  obtain ⟨o, ho⟩ : ∃ o, colonL (L t) = o := ⟨_, rfl⟩
  have hans : schemeO (L s) = o.map fun k => lowL ((L t).take k) := by unfold schemeO; rw [← hL, ho]
  have HA := Lib.hid hans; have HO := Lib.hid ho; have HT := Lib.hid ht
  clear hans ho hL ht
  go_enter Try.func30, Try.ntmps30
  go_wp2_with fail
  refine (strip_any s w hs).mono ?_
  rw [HT.out]
  rintro e w1 ⟨rfl, hb1⟩
  have HB1 := Lib.hid hb1; clear hb1
  go_wp2_with fail
  refine (divided1 t w1 hts o HO.out).mono ?_
  rintro e w2 ⟨rfl, hb2⟩
  have HB2 := Lib.hid hb2; clear hb2
  cases o with
  | none =>
    unfold divV
    go_wp2
    go_ret2
    exact ⟨by rw [HA.out]; rfl, bt HB1.out HB2.out⟩
  | some k =>
    unfold divV
    go_wp2
    go_ret2
    exact ⟨by rw [HA.out]; rfl, bt HB1.out HB2.out⟩

theorem js_list (l : List UInt8) : ((B (schemeL l)).toList == [106, 97, 118, 97, 115, 99, 114, 105, 112, 116]) = scriptL l := by
  rw [toList_B]
  unfold scriptL
  rw [Bool.eq_iff_iff, beq_iff_eq, decide_eq_true_eq]
  rfl
set_option maxHeartbeats 2000000 in
theorem script_any (s : ByteArray) (w : World) (hs : s.size ≤ 140737488355328) :
    Calls Try.prog 26 #[.string s] w fun e w' => e = .returned (.bool (scriptL (L s))) ∧ Below w.heap.size w w' := by
  obtain ⟨x, hx⟩ : ∃ x, B (schemeL (L s)) = x := ⟨_, rfl⟩
  have hv : schemeV (schemeO (L s)) = .tuple #[.string x, .bool (hasL (L s))] := by rw [← hx]; rfl
  have hj := js_list (L s)
  rw [hx] at hj
  have HJ := Lib.hid hj; have HV := Lib.hid hv
  clear hj hx hv
  go_enter Try.func26, Try.ntmps26
  go_wp2_with fail
  refine (scheme_any s w hs).mono ?_
  rw [HV.out]
  rintro e w1 ⟨rfl, hb1⟩
  go_wp2
  go_ret
  exact ⟨ret_bool (by rw [← HJ.out]), hb1⟩
end Go.Proofs.Ytkogkildipmnpaa.Lk

namespace Go.Proofs.Ytkogkildipmnpaa.Lk
set_option maxRecDepth 100000
set_option linter.unusedSimpArgs false
set_option linter.unusedVariables false
open Go.RowKit Ba Fm Fo
theorem script1 (s : ByteArray) (w : World) (hs : s.size ≤ 140737488355328) (q : Bool) (hq : scriptL (L s) = q) :
    Calls Try.prog 26 #[.string s] w fun e w' => e = .returned (.bool q) ∧ Below w.heap.size w w' := by
  have k := script_any s w hs
  rw [hq] at k
  exact k
theorem f1 : B (schemeL (L ⟨#[32, 74, 97, 86, 97, 9, 83, 99, 114, 105, 112, 116, 58, 120]⟩)) = ⟨#[106, 97, 118, 97, 115, 99, 114, 105, 112, 116]⟩ := by kernel_rfl
theorem f2 : B (schemeL (L ⟨#[97, 47, 98, 58, 99]⟩)) = ⟨#[]⟩ := by kernel_rfl
theorem f3 : B (sourceL (L ⟨#[106, 97, 118, 97, 115, 99, 114, 105, 112, 116, 58, 97, 37, 50, 48, 98]⟩)) = ⟨#[97, 32, 98]⟩ := by kernel_rfl
theorem f4 : B (sourceL (L ⟨#[104, 116, 116, 112, 115, 58, 97]⟩)) = ⟨#[]⟩ := by kernel_rfl
theorem f5 : scriptL (L ⟨#[74, 65, 86, 65, 83, 67, 82, 73, 80, 84, 58]⟩) = true := by kernel_rfl
theorem f6 : scriptL (L ⟨#[106, 97, 118, 97, 115, 99, 114, 105, 112, 116]⟩) = false := by kernel_rfl
theorem f7 : B (stripL (L ⟨#[0, 32, 97, 10, 98, 32]⟩)) = ⟨#[97, 98]⟩ := by kernel_rfl
theorem f8 : B (pct (L ⟨#[37, 52, 49, 37, 52, 37, 122, 122, 37]⟩)) = ⟨#[65, 37, 52, 37, 122, 122, 37]⟩ := by kernel_rfl

theorem cut_any (x : Nat) (m : Nat) (M : Int) (hM : M = m) (w : World) : ∃ k : Nat, k ≤ x ∧ k ≤ m ∧ k = min x m ∧ ∀ ts t, (Builtin.min_ ts t #[.int .i64 x, .int .i64 M]).run Try.prog w = .ok (.int .i64 k) w := by
  refine ⟨min x m, by omega, by omega, rfl, fun ts t => ?_⟩
  rw [run_min_int2]
  congr 2
  split <;> omega
theorem cut_le (a : ByteArray) (k : Nat) : (a.extract 0 k).size ≤ k := by
  rw [← size_L, L_extract, List.drop_zero, Nat.sub_zero, List.length_take]; omega

end Go.Proofs.Ytkogkildipmnpaa.Lk

namespace Go.Proofs.Ytkogkildipmnpaa.Rk
set_option maxRecDepth 100000
set_option linter.unusedVariables false
set_option linter.unusedSimpArgs false
open Go.RowKit Go.Maps Ba Fm Lk Ml
theorem hand_cut (a : ByteArray) (h : 2 < a.size) : ((a.extract 0 2).toList == [111, 110]) = hand (L a) := by
  have e : (a.extract 0 2).toList = (L a).take 2 := by
    rw [toList_L, L_extract]
    rfl
  rw [e]
  rw [← size_L] at h
  match L a, h with
  | x :: y :: z :: r, _ =>
    show ([x, y] == [111, 110]) = (x == 111 && y == 110)
    simp

set_option maxRecDepth 100000 in
theorem handler1 (a : ByteArray) (w : World) (q : Bool) (hq : hand (L a) = q) :
    Calls Try.prog 10 #[.string a] w fun r w' => r = .returned (.bool q) ∧ w = w' := by
  by_cases h : 2 < a.size
  · have hc := hand_cut a h
    rw [hq] at hc
    have h' : (2 : Int) < a.size := by omega
    clear hq
    go_enter Try.func10, Try.ntmps10
    go_wp2
    go_ret
    exact ⟨rfl, rfl⟩
  · have h' : decide ((2 : Int) < a.size) = false := decide_eq_false (by omega)
    have : q = false := by
      rw [← hq]
      rw [← size_L] at h
      match L a, h with
      | [], _ | [_], _ | [_, _], _ => rfl
      | x :: y :: z :: r, e => exact absurd (by simp) e
    subst this
    clear hq
    go_enter Try.func10, Try.ntmps10
    go_wp2
    go_ret
    exact ⟨rfl, rfl⟩

def sinkJobs (b : Nat) : List Job := .mk :: (takesL.flatMap fun p => [.val (pairV p.1 p.2), .ins (pairV p.1 p.2) (.int .i64 3)]) ++ [.val (pairV ⟨#[105, 102, 114, 97, 109, 101]⟩ ⟨#[115, 114, 99, 100, 111, 99]⟩), .ins (pairV ⟨#[105, 102, 114, 97, 109, 101]⟩ ⟨#[115, 114, 99, 100, 111, 99]⟩) (.int .i64 1), .val (.map (some b)), .val (.map (some b))]
def sinkPairs : List (ByteArray × ByteArray × Value) := (takesL.map fun p => (p.1, p.2, Value.int .i64 3)) ++ [(⟨#[105, 102, 114, 97, 109, 101]⟩, ⟨#[115, 114, 99, 100, 111, 99]⟩, .int .i64 1)]
theorem ent_sink (b : Nat) : (sinkJobs b).filterMap ent = sinkPairs := rfl
theorem sink_small : ∀ p ∈ sinkPairs, p.1.size ≤ maxLen ∧ p.2.1.size ≤ maxLen := by
  have h : (sinkPairs.all fun p => decide (p.1.size ≤ 20) && decide (p.2.1.size ≤ 20)) = true := by decide +kernel
  intro p hp
  have := List.all_eq_true.1 h p hp
  rw [Bool.and_eq_true, decide_eq_true_iff, decide_eq_true_iff] at this
  unfold maxLen
  omega
theorem sink_mem {e a : ByteArray} {v : Value} (h : (e, a, v) ∈ sinkPairs) (hh : hand (L a) = false) : v = .int .i64 (sinkN e a) ∧ sinkN e a ≠ 0 := by
  unfold sinkPairs at h
  rcases List.mem_append.1 h with h | h
  · obtain ⟨p, hp, hx⟩ := List.mem_map.1 h
    injection hx with h1 h2
    injection h2 with h2 h3
    have : pairB takesL e a = true := pair_mem.2 (by rw [← h1, ← h2]; exact hp)
    have hs : sinkN e a = 3 := by
      unfold sinkN
      rw [if_neg (by rw [hh]; decide), if_pos this]
    rw [hs]
    exact ⟨h3.symm, by decide⟩
  · have := List.mem_singleton.1 h
    injection this with h1 h2
    injection h2 with h2 h3
    subst h1 h2
    have hs : sinkN ⟨#[105, 102, 114, 97, 109, 101]⟩ ⟨#[115, 114, 99, 100, 111, 99]⟩ = 1 := by decide +kernel
    rw [hs]
    exact ⟨h3, by decide⟩
theorem sink_none {e a : ByteArray} (h : ∀ v, (e, a, v) ∉ sinkPairs) (hh : hand (L a) = false) : sinkN e a = 0 := by
  unfold sinkN
  rw [if_neg (by rw [hh]; decide)]
  rw [if_neg, if_neg]
  · intro hd
    unfold docB at hd
    rw [Bool.and_eq_true, decide_eq_true_iff, decide_eq_true_iff] at hd
    exact h (.int .i64 1) (List.mem_append_right _ (by rw [hd.1, hd.2]; exact List.mem_singleton.2 rfl))
  · intro hd
    exact h (.int .i64 3) (List.mem_append_left _ (List.mem_map.2 ⟨_, pair_mem.1 hd, rfl⟩))

set_option maxRecDepth 100000 in
theorem sink_any (e a : ByteArray) (he : e.size ≤ maxLen) (ha : a.size ≤ maxLen) (w : World) :
    Calls Try.prog 14 #[.string e, .string a] w fun r w' => r = .returned (.int .i64 (sinkN e a)) ∧ Below w.heap.size w w' := by
  cases hh : hand (L a) with
  | true =>
    have hs : sinkN e a = 2 := by
      unfold sinkN
      rw [if_pos hh]
    rw [hs]
    clear hs
    go_enter Try.func14, Try.ntmps14
    go_wp2_with fail
    refine (handler1 a w true hh).mono ?_
    rintro r w1 ⟨rfl, rfl⟩
    clear hh
    go_wp2
    go_ret
    exact ⟨rfl, Below.refl _ _⟩
  | false =>
  go_enter Try.func14, Try.ntmps14
  go_wp2_with fail
  refine (handler1 a w false hh).mono ?_
  rintro r w1 ⟨rfl, rfl⟩
  have HH := Lib.hid hh
  clear hh
  go_wp2
  refine region_pairs (l := sinkJobs w.heap.size) (List.toArray (.string e :: .string a :: undef :: undef :: .int .i64 0 :: .map (some w.heap.size) :: undef :: undef :: .string a :: .bool false :: .map (some w.heap.size) :: .agg #[.string ⟨#[115, 99, 114, 105, 112, 116]⟩, .string ⟨#[115, 114, 99]⟩] :: .agg #[.string ⟨#[101, 109, 98, 101, 100]⟩, .string ⟨#[115, 114, 99]⟩] :: .agg #[.string ⟨#[111, 98, 106, 101, 99, 116]⟩, .string ⟨#[100, 97, 116, 97]⟩] :: .agg #[.string ⟨#[105, 102, 114, 97, 109, 101]⟩, .string ⟨#[115, 114, 99, 100, 111, 99]⟩] :: .map (some w.heap.size) :: undef :: undef :: undef :: undef :: undef :: undef :: undef :: undef :: undef :: undef :: [])) (by kernel_rfl) lawPair Try.underlying46 rfl (by kernel_rfl) ?_ ?_ (by kernel_rfl) ?_
  · refine ⟨rfl, fun a w _ => ?_, does_insC 0 1 rfl rfl rfl (by simp) (by simp) rfl rfl rfl rfl, fun a w _ => ?_, does_insC 0 3 rfl rfl rfl (by simp) (by simp) rfl rfl rfl rfl, fun a w _ => ?_, does_insC 0 5 rfl rfl rfl (by simp) (by simp) rfl rfl rfl rfl, fun a w _ => ?_, does_insC 0 7 rfl rfl rfl (by simp) (by simp) rfl rfl rfl rfl, does_move 0 (.inl rfl) (by simp) rfl rfl, does_move 9 (.inr rfl) (by simp) rfl rfl, trivial⟩
    all_goals (go_simp; try rfl)
  · intro e' a' v hm
    rw [ent_sink] at hm
    have := sink_small _ hm
    exact key_pair this.1 this.2
  · intro w1 hb1 hT
    rw [ent_sink] at hT
    obtain ⟨x, hx⟩ := key_pair he ha
    have hz : (zeroValue 3).run Try.prog w1 = .ok (.int .i64 0) w1 := by kernel_rfl
    have hl : ∃ k : Nat, k = sinkN e a ∧ (Instr.lookup 46 (.map (some w.heap.size)) (.agg #[.string e, .string a]) true).run Try.prog w1 = .ok (.tuple #[.int .i64 k, .bool (decide (k ≠ 0))]) w1 := by
      rcases hT.look lawPair Try.underlying46 hz hx with ⟨h1, h2⟩ | ⟨v, ⟨e', a', h2, h3⟩, h1⟩
      · have : sinkN e a = 0 := sink_none (fun v hv => h2 v ⟨e, a, rfl, hv⟩) HH.out
        exact ⟨0, this.symm, h1⟩
      · obtain ⟨rfl, rfl⟩ := pairV_inj h2
        obtain ⟨h4, h5⟩ := sink_mem h3 HH.out
        refine ⟨_, rfl, ?_⟩
        rw [decide_eq_true h5, ← h4]
        exact h1
    clear hT hx hz
    obtain ⟨k, hk, hl⟩ := hl
    have HK := Lib.hid hk
    clear hk
    by_cases h0 : k = 0
    · subst h0
      go_wp2
      go_ret
      exact ⟨congrArg (fun n : Nat => Ending.returned (.int .i64 n)) HK.out, (Below.refl _ _).drew.trans hb1⟩
    · have h0' : decide (k ≠ 0) = true := decide_eq_true h0
      rw [h0'] at hl
      clear h0 h0'
      go_wp2
      go_ret
      exact ⟨congrArg (fun n : Nat => Ending.returned (.int .i64 n)) HK.out, (Below.refl _ _).drew.trans hb1⟩
end Go.Proofs.Ytkogkildipmnpaa.Rk

namespace Go.Proofs.Ytkogkildipmnpaa.Rz
set_option maxRecDepth 100000
set_option linter.unusedVariables false
set_option linter.unusedSimpArgs false
open Go.RowKit Ba Go.ChangeShapes Go.WideShapes Go.Deep
open Ro (At Ro Cw ros Rv Rr Att Held cells acells Ra Sh open_rows_parts open_agg_any)
/-- Each string that is read there, and each row of memory, is within the reach. -/
def Within {H : Type} (P : Program) (t : TypeId) (d : DataW H) : Prop := ∀ m ∈ d.weights P t, m ≤ reachBytes
theorem within_all {H : Type} {P : Program} {e : TypeId} {d : DataW H} {m : Nat} : ∀ {l : List (DataW H)}, d ∈ l → m ∈ d.weights P e → m ∈ DataW.weightsAll P e l
  | [], h, _ => by cases h
  | x :: r, h, hm => by
    rw [DataW.weightsAll, List.mem_append]
    rcases List.mem_cons.1 h with rfl | h
    · exact .inl hm
    · exact .inr (within_all h hm)
theorem Within.elem {H : Type} {P : Program} {t e : TypeId} {l sp : List (DataW H)} {d : DataW H} (h : Within P t (.slice l sp)) (ht : P.underlying t = some (.slice e)) (hd : d ∈ l) : Within P e d := fun m hm => h m (by
  simp only [DataW.weights, ht, List.mem_cons, List.mem_append]
  exact .inr (.inl (within_all hd hm)))
theorem Within.part {H : Type} {P : Program} {t : TypeId} {fs : Array Field} {l : List (DataW H)} {d : DataW H} {j : Nat} {f : Field} (h : Within P t (.agg l)) (ht : P.underlying t = some (.struct fs)) (hf : fs[j]? = some f) (hd : l[j]? = some d) : Within P f.type d := fun m hm => h m (by
  simp only [DataW.weights, ht]
  exact DataW.weights_mem_each (j := j) (by rw [List.getElem?_map, Array.getElem?_toList, hf]; rfl) hd m hm)
theorem Within.str {H : Type} {P : Program} {t : TypeId} {s : ByteArray} (h : Within P t (.lit (.string s.data.toList) : DataW H)) : s.size ≤ reachBytes := by
  have := h s.data.toList.length (by simp [DataW.weights])
  rw [Array.length_toList] at this
  exact this
theorem sized_all {H : Type} {P : Program} {ts : List TypeId} {ds : List (DataW H)} (h : (DataW.weightsEach P ts ds).all (· ≤ reachBytes) = true) {j : Nat} {t : TypeId} {d : DataW H} (ht : ts[j]? = some t) (hd : ds[j]? = some d) : Within P t d := fun m hm => by
  have := List.all_eq_true.1 h m (DataW.weights_mem_each ht hd m hm)
  simpa using this

theorem reach_le {n : Nat} (h : n ≤ reachBytes) : n ≤ 140737488355328 := Nat.le_trans h (by decide)
/-- Names and values of attributes are within the reach. -/
def SmallA (l : List At) : Prop := ∀ a ∈ l, a.name.size ≤ 140737488355328 ∧ a.value.size ≤ 140737488355328
def SmallR (x : Ro) : Prop := x.name.size ≤ 140737488355328 ∧ x.data.size ≤ 140737488355328 ∧ SmallA x.attrs
def Small (l : List Ro) : Prop := ∀ x ∈ l, SmallR x
section
variable {H : Type} {enc : TypeId × Value → H} {w : World} {base : Nat}
theorem attrs_small {fuel N c : Nat} {v : Value} {x : DataW H × List MemPlace} {A : Option Addr} {l : List At} (h : DataW.trod enc Try.prog w 0 (fun _ => true) true fuel 35 [v] = some x) (hv : v = .slice A l.length c) (hr : Ra w N A l) (hz : Within Try.prog 35 x.1) : SmallA l := by
  subst hv
  rcases open_rows_parts Try.underlying35 Try.underlying30 (by kernel_rfl) (by kernel_rfl) h with hcs | ⟨a, len, cap, D, sp, hcs, hx, hi⟩
  · simp at hcs
    obtain ⟨_, hl, _⟩ := hcs
    have : l = [] := hl
    subst this
    intro a ha
    cases ha
  · simp at hcs
    obtain ⟨hA, hl, _⟩ := hcs
    intro a0 ha0
    obtain ⟨i, hil, rfl⟩ := List.getElem_of_mem ha0
    obtain ⟨b, off, e, _, hc⟩ := hr (by omega)
    rw [hA] at e
    injection e with e
    subst e
    rw [hx] at hz
    have hzi := hz.elem (d := D i) Try.underlying35 (List.mem_map.2 ⟨i, List.mem_range.2 (by omega), rfl⟩)
    obtain ⟨u0, y0, n0, p0, hc0, hD0, hy0, ht0⟩ := hi i (by omega) 0 _ rfl
    obtain ⟨u1, y1, n1, p1, hc1, hD1, hy1, ht1⟩ := hi i (by omega) 1 _ rfl
    obtain rfl : p0 = p1 := by rw [hD0] at hD1; injection hD1
    obtain ⟨s0, e0, g0, _⟩ := DataW.trod_string Try.underlying9 ht0
    obtain ⟨s1, e1, g1, _⟩ := DataW.trod_string Try.underlying9 ht1
    rw [add_plain] at hc0 hc1
    have k0 := hc i hil 0 (.string l[i].name) rfl
    have k1 := hc i hil 1 (.string l[i].value) rfl
    have q0 : s0 = l[i].name := by
      obtain rfl : u0 = .string s0 := by simpa using e0
      rw [show off + i * 2 + 0 = off + (i * 2 + 0) by omega] at k0
      have := hc0.symm.trans k0
      injection this with this
      injection this
    have q1 : s1 = l[i].value := by
      obtain rfl : u1 = .string s1 := by simpa using e1
      rw [show off + i * 2 + 1 = off + (i * 2 + 1) by omega] at k1
      have := hc1.symm.trans k1
      injection this with this
      injection this
    rw [hD0] at hzi
    have z0 := hzi.part Try.underlying30 rfl hy0
    have z1 := hzi.part Try.underlying30 rfl hy1
    rw [g0] at z0
    rw [g1] at z1
    have z0 := reach_le z0.str
    have z1 := reach_le z1.str
    rw [← q0, ← q1]
    exact ⟨z0, z1⟩
theorem rows_small {v : Value} {l : List Cw} {d : DataW H} {p : List MemPlace} (hs : Rv w v l)
    (h : ∃ fuel, DataW.trod enc Try.prog w 0 (fun _ => true) true fuel 32 v.cells.toList = some (d, p)) (hz : Within Try.prog 32 d) : Small (ros l) := by
  obtain ⟨A, c, rfl, _, _, hr, _⟩ := hs
  obtain ⟨fuel, hf⟩ := h
  rcases open_rows_parts Try.underlying32 Try.underlying37 (by kernel_rfl) (by kernel_rfl) hf with hcs | ⟨a, len, cap, D, sp, hcs, hx, hi⟩
  · simp [Value.cells] at hcs
    obtain ⟨_, hl, _⟩ := hcs
    have : l = [] := hl
    subst this
    intro a ha
    cases ha
  · simp [Value.cells] at hcs
    obtain ⟨hA, hl, _⟩ := hcs
    have hx : d = _ := hx
    intro x0 hx0
    obtain ⟨y0, hy0, rfl⟩ := List.mem_map.1 hx0
    obtain ⟨i, hil, rfl⟩ := List.getElem_of_mem hy0
    obtain ⟨b, off, e, _, hc⟩ := hr.1 (by omega)
    rw [hx] at hz
    have hzi := hz.elem (d := D i) Try.underlying32 (List.mem_map.2 ⟨i, List.mem_range.2 (by omega), rfl⟩)
    obtain ⟨v2, y2, n2, p2, hc2, hD2, g2, ht2⟩ := hi i (by omega) 2 _ rfl
    obtain ⟨v3, y3, n3, p3, hc3, hD3, g3, ht3⟩ := hi i (by omega) 3 _ rfl
    obtain ⟨v4, y4, n4, p4, hc4, hD4, g4, ht4⟩ := hi i (by omega) 4 _ rfl
    obtain rfl : p2 = p3 := by rw [hD2] at hD3; injection hD3
    obtain rfl : p2 = p4 := by rw [hD2] at hD4; injection hD4
    obtain ⟨s2, e2, b2, _⟩ := DataW.trod_string Try.underlying9 ht2
    obtain ⟨s3, e3, b3, _⟩ := DataW.trod_string Try.underlying9 ht3
    obtain rfl : v2 = .string s2 := by simpa using e2
    obtain rfl : v3 = .string s3 := by simpa using e3
    rw [hA] at e
    injection e with e
    subst e
    rw [add_plain] at hc2 hc3 hc4
    have k2 := hc i hil 2 (.string l[i].ro.name) rfl
    have k3 := hc i hil 3 (.string l[i].ro.data) rfl
    have k4 := hc i hil 4 (.slice l[i].A l[i].ro.attrs.length l[i].c) rfl
    rw [show off + i * 5 + 2 = off + (i * 5 + 2) by omega] at k2
    rw [show off + i * 5 + 3 = off + (i * 5 + 3) by omega] at k3
    rw [show off + i * 5 + 4 = off + (i * 5 + 4) by omega] at k4
    have q2 : s2 = l[i].ro.name := by
      have := Option.some.inj (hc2.symm.trans k2)
      injection this
    have q3 : s3 = l[i].ro.data := by
      have := Option.some.inj (hc3.symm.trans k3)
      injection this
    obtain rfl : v4 = .slice l[i].A l[i].ro.attrs.length l[i].c := Option.some.inj (hc4.symm.trans k4)
    have hra := (hr.2 l[i] (List.getElem_mem _)).2.2.2.1
    rw [hD2] at hzi
    have z2 := hzi.part Try.underlying37 rfl g2
    have z3 := hzi.part Try.underlying37 rfl g3
    have z4 := hzi.part Try.underlying37 rfl g4
    rw [b2] at z2
    rw [b3] at z3
    have h2 := z2.str
    have h3 := z3.str
    rw [q2] at h2
    rw [q3] at h3
    exact ⟨reach_le h2, reach_le h3, attrs_small ht4 rfl hra z4⟩
/-- An argument api.Attr, as the statement's row reads it. -/
theorem open_at {v : Value} {d : DataW H} {p : List MemPlace} (hv : Value.okWide Try.prog w .any base 30 v)
    (h : ∃ fuel, DataW.trod enc Try.prog w 0 (fun _ => true) true fuel 30 v.cells.toList = some (d, p)) (hlt : ∀ z ∈ p, z.block < w.heap.size) :
    ∃ a : At, v = .agg #[.string a.name, .string a.value] ∧ (Within Try.prog 30 d → a.name.size ≤ reachBytes ∧ a.value.size ≤ reachBytes) := by
  obtain ⟨cs, ys, n, rfl, hcs, hd, hp, hat⟩ := open_agg_any Try.underlying30 (by kernel_rfl) (by kernel_rfl) hv h
  obtain ⟨v0, y0, c0, g0, t0⟩ := hat 0 _ rfl
  obtain ⟨v1, y1, c1, g1, t1⟩ := hat 1 _ rfl
  obtain ⟨s0, e0, b0, _⟩ := DataW.trod_string Try.underlying9 t0
  obtain ⟨s1, e1, b1, _⟩ := DataW.trod_string Try.underlying9 t1
  obtain rfl : v0 = .string s0 := by simpa using e0
  obtain rfl : v1 = .string s1 := by simpa using e1
  have hcs2 : cs.size = 2 := hcs
  refine ⟨⟨s0, s1⟩, ?_, fun hz => ?_⟩
  · congr 1
    apply Array.ext'
    match hcl : cs.toList, (show cs.toList.length = 2 by rw [Array.length_toList]; exact hcs2) with
    | [x0, x1], _ =>
      have q : ∀ j, cs[j]? = [x0, x1][j]? := fun j => by rw [← hcl, Array.getElem?_toList]
      rw [q] at c0 c1
      simp only [List.getElem?_cons_zero, List.getElem?_cons_succ, Option.some.injEq] at c0 c1
      rw [c0, c1]
  · rw [hd] at hz
    have z0 := hz.part (d := y0.1) Try.underlying30 rfl (by rw [List.getElem?_map, g0]; rfl)
    have z1 := hz.part (d := y1.1) Try.underlying30 rfl (by rw [List.getElem?_map, g1]; rfl)
    rw [b0] at z0
    rw [b1] at z1
    exact ⟨z0.str, z1.str⟩
end
end Go.Proofs.Ytkogkildipmnpaa.Rz

namespace Go.Proofs.Ytkogkildipmnpaa.Rk
set_option maxRecDepth 100000
set_option linter.unusedVariables false
set_option linter.unusedSimpArgs false
open Go.RowKit Go.Maps Ba Fm Lk Ml
open Ro (At Ro Cw ros Rv Rr Att Ra rowO box_at box_kept getElem_of_drop below_new size_row size_attr cells)
theorem eqlit (s : ByteArray) (l : List UInt8) : (s.toList == l) = decide (s = ⟨l.toArray⟩) := by
  rw [← ByteArray.toList_mk l, eq_of_toList, ByteArray.toList_mk]
theorem never_or (e : ByteArray) (b0 b1 b2 b3 b4 b5 b6 b7 : Bool) (h0 : (e.toList == [98, 97, 115, 101]) = b0) (h1 : (e.toList == [101, 109, 98, 101, 100]) = b1) (h2 : (e.toList == [102, 114, 97, 109, 101]) = b2) (h3 : (e.toList == [105, 102, 114, 97, 109, 101]) = b3) (h4 : (e.toList == [108, 105, 110, 107]) = b4) (h5 : (e.toList == [109, 101, 116, 97]) = b5) (h6 : (e.toList == [111, 98, 106, 101, 99, 116]) = b6) (h7 : (e.toList == [115, 99, 114, 105, 112, 116]) = b7) : (b0 || b1 || b2 || b3 || b4 || b5 || b6 || b7) = neverB e := by
  rw [eqlit] at h0 h1 h2 h3 h4 h5 h6 h7
  subst h0 h1 h2 h3 h4 h5 h6 h7
  unfold neverB isIn unsafeL
  rw [Bool.eq_iff_iff]
  simp [or_assoc]
set_option maxRecDepth 100000 in
theorem element1 (e : ByteArray) (w : World) (q : Bool) (hq : neverB e = q) :
    Calls Try.prog 16 #[.string e] w fun r w' => r = .returned (.bool q) ∧ w = w' := by
  obtain ⟨b0, h0⟩ : ∃ b, (e.toList == [98, 97, 115, 101]) = b := ⟨_, rfl⟩
  obtain ⟨b1, h1⟩ : ∃ b, (e.toList == [101, 109, 98, 101, 100]) = b := ⟨_, rfl⟩
  obtain ⟨b2, h2⟩ : ∃ b, (e.toList == [102, 114, 97, 109, 101]) = b := ⟨_, rfl⟩
  obtain ⟨b3, h3⟩ : ∃ b, (e.toList == [105, 102, 114, 97, 109, 101]) = b := ⟨_, rfl⟩
  obtain ⟨b4, h4⟩ : ∃ b, (e.toList == [108, 105, 110, 107]) = b := ⟨_, rfl⟩
  obtain ⟨b5, h5⟩ : ∃ b, (e.toList == [109, 101, 116, 97]) = b := ⟨_, rfl⟩
  obtain ⟨b6, h6⟩ : ∃ b, (e.toList == [111, 98, 106, 101, 99, 116]) = b := ⟨_, rfl⟩
  obtain ⟨b7, h7⟩ : ∃ b, (e.toList == [115, 99, 114, 105, 112, 116]) = b := ⟨_, rfl⟩
  have HQ := Lib.hid ((never_or e b0 b1 b2 b3 b4 b5 b6 b7 h0 h1 h2 h3 h4 h5 h6 h7).trans hq)
  clear hq
  go_enter Try.func16, Try.ntmps16
  cases b0 with
  | true =>
    go_wp2
    go_ret
    exact ⟨ret_bool (by rw [← HQ.out]; simp), rfl⟩
  | false =>
  cases b1 with
  | true =>
    go_wp2
    go_ret
    exact ⟨ret_bool (by rw [← HQ.out]; simp), rfl⟩
  | false =>
  cases b2 with
  | true =>
    go_wp2
    go_ret
    exact ⟨ret_bool (by rw [← HQ.out]; simp), rfl⟩
  | false =>
  cases b3 with
  | true =>
    go_wp2
    go_ret
    exact ⟨ret_bool (by rw [← HQ.out]; simp), rfl⟩
  | false =>
  cases b4 with
  | true =>
    go_wp2
    go_ret
    exact ⟨ret_bool (by rw [← HQ.out]; simp), rfl⟩
  | false =>
  cases b5 with
  | true =>
    go_wp2
    go_ret
    exact ⟨ret_bool (by rw [← HQ.out]; simp), rfl⟩
  | false =>
  cases b6 with
  | true =>
    go_wp2
    go_ret
    exact ⟨ret_bool (by rw [← HQ.out]; simp), rfl⟩
  | false =>
  cases b7 with
  | true =>
    go_wp2
    go_ret
    exact ⟨ret_bool (by rw [← HQ.out]; simp), rfl⟩
  | false =>
  go_wp2
  go_ret
  exact ⟨ret_bool (by rw [← HQ.out]; rfl), rfl⟩

theorem nav1 (e a : ByteArray) (he : e.size ≤ 140737488355328) (ha : a.size ≤ 140737488355328) (w : World) (q : Bool) (hq : navB e a = q) :
    Calls Try.prog 12 #[.string e, .string a] w fun r w' => r = .returned (.bool q) ∧ Below w.heap.size w w' := by
  have := nav_any e a (by unfold maxLen; omega) (by unfold maxLen; omega) w
  rw [hq] at this
  exact this
theorem sink1 (e a : ByteArray) (he : e.size ≤ 140737488355328) (ha : a.size ≤ 140737488355328) (w : World) (n : Nat) (hq : sinkN e a = n) :
    Calls Try.prog 14 #[.string e, .string a] w fun r w' => r = .returned (.int .i64 n) ∧ Below w.heap.size w w' := by
  have := sink_any e a (by unfold maxLen; omega) (by unfold maxLen; omega) w
  rw [hq] at this
  exact this
theorem script10 (s : ByteArray) (w : World) (hs : s.size ≤ 140737488355328) (q : Bool) (hq : scriptL (L s) = q) :
    Calls Try.prog 26 #[.string s] w fun e w' => e = .returned (.bool q) ∧ Below w.heap.size w w' := script1 s w hs q hq

theorem abox_kept {w w3 : World} {n v : ByteArray} (hb : Below (w.alloc (.cells #[.string n, .string v] 30)).heap.size (w.alloc (.cells #[.string n, .string v] 30)) w3) (j : Nat) : w3.cell? ⟨w.heap.size, j, none⟩ = (Ro.acells ⟨n, v⟩)[j]? :=
  (hb.cell (p := ⟨w.heap.size, j, none⟩) (by simp)).trans (by
    rw [World.cell?_alloc_mark]
    match j with
    | 0 | 1 => rfl
    | j + 2 => simp [Ro.acells])
set_option maxRecDepth 100000 in
theorem attr1 (e : ByteArray) (a : At) (he : e.size ≤ 140737488355328) (ha : a.name.size ≤ 140737488355328) (hv : a.value.size ≤ 140737488355328) (w : World) (q : Bool) (hq : attrB e a = q) :
    Calls Try.prog 19 #[.string e, .agg #[.string a.name, .string a.value]] w fun r w' => r = .returned (.bool q) ∧ Below w.heap.size w w' := by
  obtain ⟨n, v⟩ := a
  simp only at ha hv ⊢
  obtain ⟨k, hk⟩ : ∃ k, sinkN e n = k := ⟨_, rfl⟩
  obtain ⟨b, hb⟩ : ∃ b, navB e n = b := ⟨_, rfl⟩
  obtain ⟨s, hs⟩ : ∃ s, scriptL (L v) = s := ⟨_, rfl⟩
  have hq' : (decide (k ≠ 0) || (b && s)) = q := by
    rw [← hq, ← hk, ← hb, ← hs]
    rfl
  have HK := Lib.hid hk; have HB := Lib.hid hb; have HS := Lib.hid hs; have HQ := Lib.hid hq'
  clear hk hb hs hq hq'
  go_enter Try.func19, Try.ntmps19
  go_wp2_with fail
  refine (sink1 e n he ha _ k HK.out).mono ?_
  rintro r w1 ⟨rfl, b1⟩
  have c0 := abox_kept b1 0
  have c1 := abox_kept b1 1
  simp only [Ro.acells, List.getElem?_cons_zero, List.getElem?_cons_succ] at c0 c1
  have hlt : w.heap.size < w1.heap.size := Nat.lt_of_lt_of_le (by simp) b1.size
  have B1 := Lib.hid ((below_new w _).trans (b1.mono (by simp)))
  clear b1
  by_cases h0 : k = 0
  · subst h0
    go_wp2_with fail
    refine (nav1 e n he ha _ b HB.out).mono ?_
    rintro r w2 ⟨rfl, b2⟩
    have d1 := (b2.cell (p := ⟨w.heap.size, 1, none⟩) hlt).trans c1
    have B2 := Lib.hid (B1.out.trans (b2.mono B1.out.size))
    clear b2 c0 c1
    cases b with
    | true =>
      go_wp2_with fail
      refine (script10 v _ hv s HS.out).mono ?_
      rintro r w3 ⟨rfl, b3⟩
      have B3 := Lib.hid (B2.out.trans (b3.mono B2.out.size))
      clear b3
      go_wp2
      go_ret
      exact ⟨ret_bool (by rw [← HQ.out]; simp), B3.out⟩
    | false =>
      go_wp2
      go_ret
      exact ⟨ret_bool (by rw [← HQ.out]; rfl), B2.out⟩
  · have h0n : ¬ (k : Int) = 0 := by omega
    have hq1 : true = q := by rw [← HQ.out, decide_eq_true h0]; rfl
    clear c0 c1
    subst hq1
    go_wp2
    go_ret
    exact ⟨rfl, B1.out⟩

set_option maxRecDepth 100000 in
/-- An element alone: it, and each of its attributes. -/
theorem safeElement1 (x : Cw) (w : World) (hx : Att w w.heap.size x) (hs : Rz.SmallR x.ro) (q : Bool) (hq : (!neverB x.ro.name && x.ro.attrs.all fun a => !attrB x.ro.name a) = q) :
    Calls Try.prog 28 #[Ro.rowV x] w fun r w' => r = .returned (.bool q) ∧ Below w.heap.size w w' := by
  obtain ⟨hn, _, hatt⟩ := hs
  obtain ⟨b, hb⟩ : ∃ b, neverB x.ro.name = b := ⟨_, rfl⟩
  have HB := Lib.hid hb
  rw [hb] at hq
  have HQ := Lib.hid hq
  clear hb hq
  have hlen := hx.1
  have hcm := hx.2.2.1
  have HX := Lib.hid hx
  clear hx
  unfold maxLen at hcm
  go_enter Try.func28, Try.ntmps28
  go_wp2_with fail
  refine (element1 x.ro.name _ b HB.out).mono ?_
  rintro r w1 ⟨rfl, rfl⟩
  cases b with
  | true =>
    go_wp2
    go_ret
    exact ⟨ret_bool (by rw [← HQ.out]; rfl), below_new _ _⟩
  | false =>
    go_wp2
    go_loopw [4, 11] (fun _ i wr => ∃ k : Nat, i = .int .i64 k ∧ k ≤ x.ro.attrs.length ∧ Hid ((x.ro.attrs.take k).all (fun a => !attrB x.ro.name a) = true) ∧ Below w.heap.size w wr ∧ w.heap.size < wr.heap.size ∧ wr.cell? ⟨w.heap.size, 2, none⟩ = some (.string x.ro.name)) (fun _ i _ => x.ro.attrs.length - (intOf i).toNat)
    case atStart => exact ⟨0, rfl, by omega, rfl, below_new _ _, by simp, by rw [box_at]; rfl⟩
    case round =>
      obtain ⟨k, rfl, hk, hall, hbel, hlt, hcell⟩ := hrel
      have hsz := hbel.size
      by_cases hp : k < x.ro.attrs.length
      · obtain ⟨b, off, a, hA, hb, hd, hx, hxm⟩ := (HX.out.2.2.2.1.below hbel).at_ k hp
        rw [hA]
        obtain ⟨q1, hq1⟩ : ∃ q1, attrB x.ro.name a = q1 := ⟨_, rfl⟩
        have HQ1 := Lib.hid hq1
        have htk : x.ro.attrs.take (k + 1) = x.ro.attrs.take k ++ [a] := by
          rw [List.take_add_one, getElem_of_drop hd]
          rfl
        have HT := Lib.hid htk
        have HM := Lib.hid hxm
        have hsa := hatt a hxm
        clear hd htk hxm hq1
        go_wp2_with (refine wpList_load_mid rfl 30 (.tmp 13) rfl b (off + k * 2) rfl _ _ hx Try.underlying30 rfl size_attr ?_)
        refine (attr1 x.ro.name a hn hsa.1 hsa.2 _ q1 HQ1.out).mono ?_
        rintro r w3 ⟨rfl, b3⟩
        have B3 : Below w.heap.size wr w3 := (below_new wr _ |>.mono hsz).trans (b3.mono (by simp; omega))
        have C3 : w3.cell? ⟨w.heap.size, 2, none⟩ = some (.string x.ro.name) := (b3.cell (p := ⟨w.heap.size, 2, none⟩) (by simp; omega)).trans ((Below.cell (below_new wr _) (p := ⟨w.heap.size, 2, none⟩) hlt).trans hcell)
        have HB3 := Lib.hid (hbel.trans B3)
        have hl3 : w.heap.size < w3.heap.size := Nat.lt_of_lt_of_le hlt B3.size
        clear b3 B3 hx hcell
        cases q1 with
        | true =>
          have he : q = false := by
            rw [← HQ.out, Bool.not_false, Bool.true_and, ← Bool.not_eq_true]
            intro h
            have := List.all_eq_true.1 h a HM.out
            rw [HQ1.out] at this
            cases this
          subst he
          clear HQ
          go_wp2
          go_ret
          exact ⟨rfl, HB3.out⟩
        | false =>
          have hall' : (x.ro.attrs.take (k + 1)).all (fun a => !attrB x.ro.name a) = true := by
            rw [HT.out, List.all_append, hall.out]
            simp [HQ1.out]
          have HA := Lib.hid hall'
          clear hall hall'
          go_wp2
          go_roundw
          case rel => exact ⟨k + 1, by go_num, by omega, HA, HB3.out, hl3, C3⟩
          case measure => simp [intOf]; omega
      · have he : q = true := by
          rw [← HQ.out]
          have := hall.out
          rw [List.take_of_length_le (by omega)] at this
          simpa using this
        subst he
        clear HQ
        go_wp2
        go_ret
        exact ⟨rfl, hbel⟩

/-- Rows whose strings are within the reach: whether they are safe. -/
theorem safe1 (v : Value) (l : List Cw) (w : World) (hv : Rv w v l) (hs : Rz.Small (ros l)) (q : Bool) (hq : safeB (ros l) = q) :
    Calls Try.prog 22 #[v] w fun r w' => r = .returned (.bool q) ∧ Below w.heap.size w w' := by
  obtain ⟨A, c, rfl, hlc, hcm, hr, _⟩ := hv
  unfold maxLen at hcm
  have HQ := Lib.hid hq
  clear hq
  go_enter Try.func22, Try.ntmps22
  go_wp2
  go_loopw [4, 7] (fun _ i wr => ∃ k : Nat, i = .int .i64 k ∧ k ≤ l.length ∧ Hid (safeB ((ros l).take k) = true) ∧ Below w.heap.size w wr) (fun _ i _ => l.length - (intOf i).toNat)
  case atStart => exact ⟨0, rfl, by omega, rfl, Below.refl _ _⟩
  case round =>
    obtain ⟨k, rfl, hk, hall, hbel⟩ := hrel
    have hsz := hbel.size
    by_cases hp : k < l.length
    · obtain ⟨b, off, x, hA, hb, hd, hx, hatt, hxm⟩ := (hr.below hbel).at_ k hp
      rw [hA]
      obtain ⟨q1, hq1⟩ : ∃ q1, rowB x.ro = q1 := ⟨_, rfl⟩
      have HQ1 := Lib.hid hq1
      have htk : (ros l).take (k + 1) = (ros l).take k ++ [x.ro] := by
        have := getElem_of_drop hd
        rw [List.take_add_one]
        unfold ros
        rw [List.getElem?_map, this]
        rfl
      have HT := Lib.hid htk
      have hxm' : x.ro ∈ ros l := List.mem_map.2 ⟨x, hxm, rfl⟩
      have HM := Lib.hid hxm'
      have hsx := Lib.hid (hs x.ro hxm')
      have HATT : Hid (Att (wr.alloc (rowO x)) (wr.alloc (rowO x)).heap.size x) := Lib.hid ((hatt.more hsz).boxed (Below.refl _ _) _)
      clear hd htk hxm hxm' hq1 hatt
      have hend : ∀ w3, Below w.heap.size wr w3 → Hid (Below w.heap.size w w3) := fun w3 h => Lib.hid (hbel.trans h)
      by_cases h0 : x.ro.kind = 0
      · have hq2 : (!neverB x.ro.name && x.ro.attrs.all fun a => !attrB x.ro.name a) = q1 := by
          have := HQ1.out
          unfold rowB at this
          rw [if_pos h0] at this
          rw [Bool.and_comm]
          exact this
        have HQ2 := Lib.hid hq2
        clear hq2
        go_wp2_with (refine wpList_load_mid rfl 37 (.tmp 9) rfl b (off + k * 5) rfl _ _ hx Try.underlying37 rfl size_row ?_)
        have K := safeElement1 x _ HATT.out hsx.out q1 HQ2.out
        simp only [rowO, Ro.rowV, h0] at K
        refine K.mono ?_
        rintro r w3 ⟨rfl, b3⟩
        have HB3 := hend w3 ((below_new wr _ |>.mono hsz).trans (b3.mono (by simp; omega)))
        clear b3 hx K
        cases q1 with
        | true =>
          have hall' : safeB ((ros l).take (k + 1)) = true := by rw [HT.out, safe_append, hall.out, safe_one, HQ1.out]; rfl
          have HA := Lib.hid hall'
          clear hall hall'
          go_wp2
          go_roundw
          case rel => exact ⟨k + 1, by go_num, by omega, HA, HB3.out⟩
          case measure => simp [intOf]; omega
        | false =>
          have he : q = false := by
            rw [← HQ.out, ← Bool.not_eq_true]
            intro h
            have := safe_of h _ HM.out
            rw [HQ1.out] at this
            cases this
          subst he
          clear HQ
          go_wp2
          go_ret
          exact ⟨rfl, HB3.out⟩
      · have hr1 : rowB x.ro = true := by unfold rowB; rw [if_neg h0]
        have hall' : safeB ((ros l).take (k + 1)) = true := by rw [HT.out, safe_append, hall.out, safe_one, hr1]; rfl
        have HA := Lib.hid hall'
        have HB3 := hend _ (below_new wr (rowO x) |>.mono hsz)
        clear hall hall' hr1
        go_wp2_with (refine wpList_load_mid rfl 37 (.tmp 9) rfl b (off + k * 5) rfl _ _ hx Try.underlying37 rfl size_row ?_)
        go_roundw
        case rel => exact ⟨k + 1, by go_num, by omega, HA, HB3.out⟩
        case measure => simp [intOf]; omega
    · have he : q = true := by
        rw [← HQ.out]
        have := hall.out
        rw [List.take_of_length_le (by rw [Ro.len_ros]; omega)] at this
        exact this
      subst he
      clear HQ
      go_wp2
      go_ret
      exact ⟨rfl, hbel⟩
end Go.Proofs.Ytkogkildipmnpaa.Rk

namespace Go.Proofs.Ytkogkildipmnpaa.Lk
set_option maxRecDepth 100000
set_option linter.unusedSimpArgs false
set_option linter.unusedVariables false
open Go.RowKit Ba Fm Fo
/-- What the reference's Strip has found of the first bytes: the first and the last place of a byte that is not ignored at an end. -/
def Seen (l : List UInt8) (f g : Int) : Prop :=
  (f = -1 ∧ g = -1 ∧ allEdge l) ∨ ∃ a b : Nat, f = a ∧ g = b ∧ a ≤ b ∧ b < l.length ∧ frontL l = l.drop a ∧ backL l = l.take (b + 1)
theorem seen_nil : Seen [] (-1) (-1) := .inl ⟨rfl, rfl, fun _ h => by cases h⟩
theorem seen_yes {l : List UInt8} {f g : Int} {c : UInt8} (h : Seen l f g) (hc : edge c = true) : Seen (l ++ [c]) f g := by
  rcases h with ⟨h1, h2, h3⟩ | ⟨a, b, h1, h2, h3, h4, h5, h6⟩
  · refine .inl ⟨h1, h2, fun x hx => ?_⟩
    rcases List.mem_append.1 hx with hx | hx
    · exact h3 x hx
    · rw [List.mem_singleton.1 hx]; exact hc
  · refine .inr ⟨a, b, h1, h2, h3, by rw [List.length_append]; omega, ?_, ?_⟩
    · rw [front_append, if_neg, h5, List.drop_append_of_le_length (by omega)]
      rw [h5]
      intro e
      have := congrArg List.length e
      rw [List.length_drop, List.length_nil] at this
      omega
    · rw [back_yes _ hc, h6, List.take_append_of_le_length (by omega)]
theorem seen_first {l : List UInt8} {g : Int} {c : UInt8} (h : Seen l (-1) g) (hc : edge c = false) : Seen (l ++ [c]) (l.length : Nat) (l.length : Nat) := by
  rcases h with ⟨h1, h2, h3⟩ | ⟨a, b, h1, _⟩
  · refine .inr ⟨l.length, l.length, rfl, rfl, Nat.le_refl _, by simp, ?_, ?_⟩
    · rw [front_append, if_pos (front_none h3), List.drop_left]
      exact front_no [] hc
    · rw [back_no _ hc, List.take_of_length_le (by simp)]
  · omega
theorem seen_more {l : List UInt8} {f g : Int} {c : UInt8} (h : Seen l f g) (h0 : 0 ≤ f) (hc : edge c = false) : Seen (l ++ [c]) f (l.length : Nat) := by
  rcases h with ⟨h1, h2, h3⟩ | ⟨a, b, h1, h2, h3, h4, h5, h6⟩
  · omega
  · refine .inr ⟨a, l.length, h1, rfl, by omega, by simp, ?_, ?_⟩
    · rw [front_append, if_neg, h5, List.drop_append_of_le_length (by omega)]
      rw [h5]
      intro e
      have := congrArg List.length e
      rw [List.length_drop, List.length_nil] at this
      omega
    · rw [back_no _ hc, List.take_of_length_le (by simp)]
/-- What stands between the two. -/
theorem seen_core {l : List UInt8} {a b : Nat} (hb : b < l.length) (hab : a ≤ b) (h1 : frontL l = l.drop a) (h2 : backL l = l.take (b + 1)) : backL (frontL l) = (l.drop a).take (b + 1 - a) := by
  obtain ⟨e, h3, h4⟩ := back_prefix l
  have hl : l = l.take a ++ l.drop a := (List.take_append_drop a l).symm
  have h5 : l.drop a = (l.drop a).take (b + 1 - a) ++ e := by
    have e1 : l.drop a = (l.take (b + 1) ++ e).drop a := by rw [← h2, ← h3]
    rw [List.drop_append_of_le_length (by rw [List.length_take]; omega), List.drop_take] at e1
    exact e1
  have hlast : backL l ≠ [] := by
    rw [h2]
    intro e
    have := congrArg List.length e
    rw [List.length_take, List.length_nil] at this
    omega
  rcases back_cases l with ⟨h6, _⟩ | ⟨m, c, h6, h7⟩
  · exact absurd h6 hlast
  · have hlen : m.length = b := by
      have := congrArg List.length h6
      rw [h2, List.length_take, List.length_append, List.length_singleton] at this
      omega
    have h8 : (l.drop a).take (b + 1 - a) = m.drop a ++ [c] := by
      rw [← List.drop_take, ← h2, h6, List.drop_append_of_le_length (by omega)]
    rw [h1]
    have h9 : backL (l.drop a) = m.drop a ++ [c] := by
      rw [h5, back_all _ h4, h8, back_no _ h7]
    rw [h9, h8]

set_option maxHeartbeats 4000000 in
theorem refStrip_any (s : ByteArray) (w : World) (hs : s.size ≤ 140737488355328) :
    Calls Try.prog 31 #[.string s] w fun e w' => e = .returned (.string (B (stripL (L s)))) ∧ Below w.heap.size w w' := by
  go_enter Try.func31, Try.ntmps31
  go_wp2
  go_loop [3, 4, 5] (fun v3 v4 i => ∃ (k : Nat) (f g : Int), v3 = .int .i64 f ∧ v4 = .int .i64 g ∧ i = .int .i64 k ∧ k ≤ s.size ∧ Seen ((L s).take k) f g) (fun _ _ i => s.size - (intOf i).toNat)
  case atStart => exact ⟨0, -1, -1, rfl, rfl, rfl, Nat.zero_le _, seen_nil⟩
  case round =>
    obtain ⟨k, f, g, rfl, rfl, rfl, hks, hsn⟩ := hrel
    by_cases hp : k < s.size
    · have hl : ((L s).take k).length = k := by rw [List.length_take, size_L]; omega
      have he := edge_of s[k]
      cases hed : edge s[k] with
      | true =>
        have hn := seen_yes hsn hed
        rw [← take_snoc s k hp] at hn
        rw [hed] at he
        have h32 : (s[k].toNat : Int) ≤ 32 := of_decide_eq_true he.symm
        have HN := Lib.hid hn; clear hn hsn hed he hl
        go_wp2
        go_round
        case rel => exact ⟨k + 1, f, g, rfl, rfl, by go_num, by omega, HN.out⟩
        case measure => simp [intOf]; omega
      | false =>
        rw [hed] at he
        have h32 : ¬ (s[k].toNat : Int) ≤ 32 := of_decide_eq_false he.symm
        have h33 : 32 < (s[k].toNat : Int) := by omega
        clear he h32
        by_cases hf : f < 0
        · have hf1 : f = -1 := by rcases hsn with ⟨h, _⟩ | ⟨a, b, h, _⟩ <;> omega
          subst hf1
          have hn := seen_first hsn hed
          rw [← take_snoc s k hp, hl] at hn
          have HN := Lib.hid hn; clear hn hsn hed hl
          go_wp2
          go_round
          case rel => exact ⟨k + 1, k, k, rfl, rfl, by go_num, by omega, HN.out⟩
          case measure => simp [intOf]; omega
        · have hf0 : 0 ≤ f := by omega
          have hn := seen_more hsn hf0 hed
          rw [← take_snoc s k hp, hl] at hn
          have HN := Lib.hid hn; clear hn hsn hed hl
          go_wp2
          go_round
          case rel => exact ⟨k + 1, f, k, rfl, rfl, by go_num, by omega, HN.out⟩
          case measure => simp [intOf]; omega
    · have hk : (L s).take k = L s := List.take_of_length_le (by rw [size_L]; omega)
      rw [hk] at hsn
      have ho0 := OwnB.made w
      have hb0 : Below w.heap.size w (w.alloc (.cells #[] 5)) := (Below.refl _ _).alloc (Nat.le_refl _) _
      rcases hsn with ⟨h1, h2, h3⟩ | ⟨a, b, h1, h2, hab, hb, hf, hg⟩
      · subst h1
        subst h2
        have hfin : B (stripL (L s)) = B [] := by
          unfold stripL
          rw [front_none h3]
          rfl
        have hmx : ∀ ts t w, (Builtin.max_ ts t #[.int .i64 0, .int .i64 (-1)]).run Try.prog w = .ok (.int .i64 0) w := fun ts t w => by rw [run_max_int2]; rfl
        have HF := Lib.hid hfin; clear hfin hk h3
        go_wp2
        go_loopw [6, 7] (fun v i wr => i = .int .i64 0 ∧ OwnB w.heap.size wr v [] ∧ Below w.heap.size w wr) (fun _ _ _ => 0)
        case atStart => exact ⟨rfl, ho0, hb0⟩
        case round =>
          clear ho0 hb0 hmx
          obtain ⟨rfl, hown, hbel⟩ := hrel
          have hcv := hown.string
          clear hown
          go_wp2
          go_ret
          exact ⟨ret_str (by rw [HF.out]), hbel⟩
      · subst h1
        subst h2
        have hfin : stripL (L s) = kept (((L s).drop a).take (b + 1 - a)) := by
          unfold stripL
          rw [seen_core hb hab hf hg]
        have hbs : b < s.size := by rw [size_L] at hb; exact hb
        have hmx : ∀ ts t w, (Builtin.max_ ts t #[.int .i64 0, .int .i64 (a : Int)]).run Try.prog w = .ok (.int .i64 a) w := fun ts t w => by
          rw [run_max_int2]
          congr 2
          split <;> omega
        have HF := Lib.hid hfin; clear hfin hk hf hg hb
        go_wp2
        go_loopw [6, 7] (fun v i wr => ∃ (j : Nat), i = .int .i64 j ∧ a ≤ j ∧ j ≤ b + 1 ∧ OwnB w.heap.size wr v (kept (((L s).drop a).take (j - a))) ∧ Below w.heap.size w wr) (fun _ i _ => b + 1 - (intOf i).toNat)
        case atStart => exact ⟨a, rfl, Nat.le_refl _, by omega, by rw [Nat.sub_self, List.take_zero]; exact ho0, hb0⟩
        case round =>
          clear ho0 hb0 hmx
          obtain ⟨j, rfl, hkj, hjm, hown, hbel⟩ := hrel
          have hN := hbel.size
          by_cases hq : j ≤ b
          · have hjs : j < s.size := by omega
            have hnext := piece_next s a j hkj hjs
            have hlen : (kept (((L s).drop a).take (j - a))).length + 1 ≤ 140737488355328 := by
              have := kept_len (((L s).drop a).take (j - a))
              rw [List.length_take] at this
              omega
            have e9 : ((s[j].toNat : Int) != 9) = !(s[j] == 9) := by rw [← u8_eq]; rfl
            have e10 : ((s[j].toNat : Int) != 10) = !(s[j] == 10) := by rw [← u8_eq]; rfl
            have e13 : ((s[j].toNat : Int) != 13) = !(s[j] == 13) := by rw [← u8_eq]; rfl
            have hkn : kept (((L s).drop a).take (j + 1 - a)) = kept (((L s).drop a).take (j - a)) ++ kept [s[j]] := by rw [hnext, kept_append]
            have HO := Lib.hid hown; have HB := Lib.hid hbel
            clear hown hbel hnext
            cases hin : inn s[j] with
            | true =>
              rw [kept_yes hin, List.append_nil] at hkn
              have HK := Lib.hid hkn; clear hkn
              unfold inn at hin
              cases h9 : s[j] == 9 with
              | true =>
                rw [h9] at e9
                clear h9 hin e10 e13
                go_wp2
                go_roundw
                case rel => exact ⟨j + 1, by go_num, by omega, by omega, by rw [HK.out]; exact HO.out, HB.out⟩
                case measure => simp [intOf]; omega
              | false =>
              cases h10 : s[j] == 10 with
              | true =>
                rw [h9] at e9
                rw [h10] at e10
                clear h9 h10 hin e13
                go_wp2
                go_roundw
                case rel => exact ⟨j + 1, by go_num, by omega, by omega, by rw [HK.out]; exact HO.out, HB.out⟩
                case measure => simp [intOf]; omega
              | false =>
                have h13 : s[j] == 13 := by rw [h9, h10] at hin; simpa using hin
                rw [h9] at e9
                rw [h10] at e10
                rw [h13] at e13
                clear h9 h10 hin h13
                go_wp2
                go_roundw
                case rel => exact ⟨j + 1, by go_num, by omega, by omega, by rw [HK.out]; exact HO.out, HB.out⟩
                case measure => simp [intOf]; omega
            | false =>
              rw [kept_no hin] at hkn
              have HK := Lib.hid hkn; clear hkn
              unfold inn at hin
              simp only [Bool.or_eq_false_iff] at hin
              rw [hin.1.1] at e9
              rw [hin.1.2] at e10
              rw [hin.2] at e13
              clear hin
              go_wp2_with (at_builtin; refine app_byte wr rfl (.tmp 46) (.tmp 50) rfl w.heap.size _ (kept (((L s).drop a).take (j - a))) s[j] rfl HO.out rfl hlen hN ?_; intro v2 w2 hown2 hk2)
              go_roundw
              case rel => exact ⟨j + 1, by go_num, by omega, by omega, by rw [HK.out]; exact hown2, hk2 _ HB.out⟩
              case measure => simp [intOf]; omega
          · obtain rfl : j = b + 1 := by omega
            have hcv := hown.string
            have HB := Lib.hid hbel
            clear hown hbel
            go_wp2
            go_ret
            exact ⟨ret_str (by rw [HF.out]), HB.out⟩

theorem refLetter1 (c : UInt8) (w : World) (q : Bool) (h : lr c = q) : Calls Try.prog 36 #[.int .u8 c.toNat] w fun e w' => e = .returned (.bool q) ∧ w = w' := by
  have k := refLetter_any c w
  rw [h] at k
  exact k

set_option maxHeartbeats 8000000 in
theorem refColon_any (s : ByteArray) (w : World) (hs : s.size ≤ 140737488355328) (o : Option Nat) (ho : colonL (L s) = o) :
    Calls Try.prog 32 #[.string s] w fun e w' => e = .returned (.int .i64 ((o.map fun k => (k : Int)).getD (-1))) ∧ w = w' := by
  have HO := Lib.hid ho; clear ho
  go_enter Try.func32, Try.ntmps32
  go_wp2
  go_loop [3] (fun i => ∃ k : Nat, i = .int .i64 k ∧ k ≤ s.size ∧ Lk.upTo (L s) k) (fun i => s.size - (intOf i).toNat)
  case atStart => exact ⟨0, rfl, Nat.zero_le _, upTo_zero _⟩
  case round =>
    obtain ⟨k, rfl, hks, hu⟩ := hrel
    by_cases hp : k < s.size
    · have hpl : k < (L s).length := by rw [size_L]; exact hp
      have hg : (L s)[k] = s[k] := rfl
      have e58 : ((s[k].toNat : Int) == 58) = (s[k] == 58) := u8_eq (b := 58)
      have e43 : ((s[k].toNat : Int) != 43) = !(s[k] == 43) := by rw [← u8_eq]; rfl
      have e45 : ((s[k].toNat : Int) != 45) = !(s[k] == 45) := by rw [← u8_eq]; rfl
      have e46 : ((s[k].toNat : Int) != 46) = !(s[k] == 46) := by rw [← u8_eq]; rfl
      have hno : ∀ d : Bool, ((k : Int) == 0) = d → d = decide (k = 0) := fun d h => by rw [← h, Bool.eq_iff_iff]; simp
      cases h58 : s[k] == 58 with
      | true =>
        have hc : s[k] = 58 := by simpa using h58
        have hst := upTo_stop hu hpl (by rw [hg, hc]; exact sch_58 _)
        rw [h58] at e58
        by_cases h0 : 0 < k
        · have ho := colon_stop hst h0 hpl (by rw [hg]; exact hc)
          rw [HO.out] at ho
          subst ho
          have h0' : (0 : Int) < (k : Int) := by omega
          clear hst hu hc h58 hno hg e43 e45 e46
          go_wp2
          go_ret
          exact ⟨rfl, rfl⟩
        · have ho := colon_not hst (.inl (by omega))
          rw [HO.out] at ho
          subst ho
          obtain rfl : k = 0 := by omega
          have hl : lr s[0] = false := by rw [hc]; rfl
          have HL := Lib.hid hl
          clear hst hu hc h58 hno hg hl
          go_wp2_with fail
          refine (refLetter1 s[0] _ _ HL.out).mono ?_
          rintro e w' ⟨rfl, rfl⟩
          go_wp2
          go_ret
          exact ⟨rfl, rfl⟩
      | false =>
        rw [h58] at e58
        have hc : s[k] ≠ 58 := by simpa using h58
        cases hl : lr s[k] with
        | true =>
          have hn := upTo_next hu hpl (by rw [hg]; unfold sch; rw [hl]; rfl)
          have HN := Lib.hid hn; have HL := Lib.hid hl
          clear hu hn hl hc h58 hno hg e43 e45 e46
          go_wp2_with fail
          refine (refLetter1 s[k] _ _ HL.out).mono ?_
          rintro e w' ⟨rfl, rfl⟩
          go_wp2
          go_round
          case rel => exact ⟨k + 1, by go_num, by omega, HN.out⟩
          case measure => simp [intOf]; omega
        | false =>
          have HL := Lib.hid hl
          by_cases h0 : k = 0
          · have hst := upTo_stop hu hpl (by rw [hg]; unfold sch; rw [hl, decide_eq_false (by omega)]; rfl)
            have ho := colon_not hst (.inl h0)
            rw [HO.out] at ho
            subst ho
            subst h0
            clear hst hu hc h58 hno hg hl e43 e45 e46
            go_wp2_with fail
            refine (refLetter1 s[0] _ _ HL.out).mono ?_
            rintro e w' ⟨rfl, rfl⟩
            go_wp2
            go_ret
            exact ⟨rfl, rfl⟩
          · have e0 : ((k : Int) == 0) = false := by rw [hno _ rfl]; exact decide_eq_false h0
            have hoth : sch (decide (0 < k)) (L s)[k] = oth s[k] := by rw [hg]; unfold sch; rw [hl, decide_eq_true (by omega)]; rfl
            rw [oth_of] at hoth
            have hyes : sch (decide (0 < k)) (L s)[k] = true → Lk.upTo (L s) (k + 1) := fun h => upTo_next hu hpl h
            have hnot : sch (decide (0 < k)) (L s)[k] = false → o = none := fun h => by
              rw [← HO.out]
              exact colon_not (upTo_stop hu hpl h) (.inr (.inr ⟨hpl, by rw [hg]; exact hc⟩))
            have HY := Lib.hid hyes; have HN := Lib.hid hnot; have HT := Lib.hid hoth
            clear hyes hnot hoth hu hc h58 hno hg hl h0
            by_cases h48 : (48 : Int) ≤ s[k].toNat <;> by_cases h57 : (s[k].toNat : Int) ≤ 57 <;> cases h43 : (s[k] == 43) <;> cases h45 : (s[k] == 45) <;> cases h46 : (s[k] == 46)
            all_goals
              rw [h43] at e43
              rw [h45] at e45
              rw [h46] at e46
              have hres := HT.out
              rw [h43, h45, h46] at hres
              simp [h48, h57] at hres
              have HR := Lib.hid hres
              clear hres h43 h45 h46
              go_wp2_with fail
              refine (refLetter1 s[k] _ _ HL.out).mono ?_
              rintro e w' ⟨rfl, rfl⟩
              go_wp2
              all_goals first
                | (exfalso; have hx : (!decide ((s[k].toNat : Int) ≤ 57)) = false := by assumption
                   simp at hx; omega)
                | (go_ret
                   exact ⟨by rw [HN.out HR.out]; rfl, rfl⟩)
                | (go_round
                   case rel => exact ⟨k + 1, by go_num, by omega, HY.out HR.out⟩
                   case measure => simp [intOf]; omega)
    · have ho := colon_not (upTo_end hu (by rw [size_L]; omega)) (.inr (.inl (by rw [size_L]; omega)))
      rw [HO.out] at ho
      subst ho
      clear hu
      go_wp2
      go_ret
      exact ⟨rfl, rfl⟩

def colonI (o : Option Nat) : Int := (o.map fun k => (k : Int)).getD (-1)
theorem refColon1 (s : ByteArray) (w : World) (hs : s.size ≤ 140737488355328) (o : Option Nat) (ho : colonL (L s) = o) (i : Int) (hi : colonI o = i) :
    Calls Try.prog 32 #[.string s] w fun e w' => e = .returned (.int .i64 i) ∧ w = w' := by
  have k := refColon_any s w hs o ho
  rw [← hi]
  exact k

set_option maxHeartbeats 2000000 in
theorem refScheme_any (s : ByteArray) (w : World) (hs : s.size ≤ 140737488355328) :
    Calls Try.prog 27 #[.string s] w fun e w' => e = .returned (schemeV (schemeO (L s))) ∧ Below w.heap.size w w' := by
  obtain ⟨t, ht⟩ : ∃ t, B (stripL (L s)) = t := ⟨_, rfl⟩
  have hL : L t = stripL (L s) := by rw [← ht, L_B]
  have hts : t.size ≤ 140737488355328 := by rw [← size_L, hL]; exact Nat.le_trans (strip_len _) (by rw [size_L]; exact hs)
  obtain ⟨o, ho⟩ : ∃ o, colonL (L t) = o := ⟨_, rfl⟩
  have hans : schemeO (L s) = o.map fun k => lowL ((L t).take k) := by unfold schemeO; rw [← hL, ho]
  have HA := Lib.hid hans; have HO := Lib.hid ho; have HT := Lib.hid ht
  have hlt : ∀ k, o = some k → k < t.size := fun k h => by
    have := (colon_lt (ho.trans h)).2.1
    rw [size_L] at this
    exact this
  have HLT := Lib.hid hlt
  clear hans ho hL ht hlt
  go_enter Try.func27, Try.ntmps27
  go_wp2_with fail
  refine (refStrip_any s w hs).mono ?_
  rw [HT.out]
  rintro e w1 ⟨rfl, hb1⟩
  have HB1 := Lib.hid hb1; clear hb1
  cases o with
  | none =>
    go_wp2_with fail
    refine (refColon1 t w1 hts none HO.out (-1) rfl).mono ?_
    rintro e w2 ⟨rfl, rfl⟩
    go_wp2
    go_ret2
    exact ⟨by rw [HA.out]; rfl, HB1.out⟩
  | some k =>
    have hk := HLT.out k rfl
    have hxs : (t.extract 0 k).size ≤ 140737488355328 := Nat.le_trans (size_extract _ _ _) hts
    have hLx : lowL (L (t.extract 0 k)) = lowL ((L t).take k) := by rw [L_extract, List.drop_zero, Nat.sub_zero]
    have HX := Lib.hid hLx; clear hLx
    go_wp2_with fail
    refine (refColon1 t w1 hts (some k) HO.out k rfl).mono ?_
    rintro e w2 ⟨rfl, rfl⟩
    go_wp2_with fail
    refine (refLower_any (t.extract 0 k) w1 hxs).mono ?_
    rintro e w2 ⟨rfl, hb2⟩
    go_wp2
    go_ret2
    exact ⟨by rw [HA.out, HX.out]; rfl, bt HB1.out hb2⟩

end Go.Proofs.Ytkogkildipmnpaa.Lk

namespace Go.Proofs.Ytkogkildipmnpaa.Fo
set_option maxRecDepth 100000
set_option linter.unusedSimpArgs false
set_option linter.unusedVariables false
open Go.RowKit Ba Fm
theorem has_snoc (l : List ByteArray) (s : ByteArray) (k : Nat) (h : k < l.length) (hn : ¬ s ∈ l.take k) (he : l[k] ≠ s) : ¬ s ∈ l.take (k + 1) := by
  rw [List.take_succ_eq_append_getElem h, List.mem_append]
  rintro (h' | h')
  · exact hn h'
  · exact he (List.mem_singleton.1 h').symm

set_option maxHeartbeats 400000 in
theorem has_any (A : Option Addr) (c N : Nat) (l : List ByteArray) (s : ByteArray) (w : World) (hr : Rd w N A l) (hl : l.length ≤ 8796093022208) :
    Calls Try.prog 17 #[.slice A l.length c, .string s] w fun e w' => e = .returned (.bool (isIn s l)) ∧ w = w' := by
  go_enter Try.func17, Try.ntmps17
  go_wp2
  go_loop [5] (fun i => ∃ k : Nat, i = .int .i64 k ∧ k ≤ l.length ∧ ¬ s ∈ l.take k) (fun i => l.length - (intOf i).toNat)
  case atStart => exact ⟨0, rfl, Nat.zero_le _, by simp⟩
  case round =>
    obtain ⟨k, rfl, hks, hn⟩ := hrel
    have HN := Lib.hid hn; clear hn
    by_cases hp : k < l.length
    · obtain ⟨b, off, rfl, _, hc⟩ := hr (by omega)
      have hcell := hc k hp
      clear hc hr
      have heq := eq_of_toList (a := l[k]) (b := s)
      by_cases he : l[k] = s
      · rw [decide_eq_true he] at heq
        have HE := Lib.hid he; clear he
        go_wp2
        go_ret
        exact ⟨ret_bool (isIn_yes (by have := HE.out; rw [← this]; exact List.getElem_mem _)).symm, rfl⟩
      · rw [decide_eq_false he] at heq
        have HE := Lib.hid he; clear he
        go_wp2
        go_round
        case rel => exact ⟨k + 1, by go_num, by omega, has_snoc l s k hp HN.out HE.out⟩
        case measure => simp [intOf]; omega
    · go_wp2
      go_ret
      refine ⟨ret_bool (isIn_no ?_).symm, rfl⟩
      have := HN.out
      rwa [List.take_of_length_le (by omega)] at this

end Go.Proofs.Ytkogkildipmnpaa.Fo

namespace Go.Proofs.Ytkogkildipmnpaa.Rk
set_option maxRecDepth 100000
set_option linter.unusedVariables false
set_option linter.unusedSimpArgs false
open Go.RowKit Go.Maps Ba Fm Lk Ml Fo
open Ro (At Ro)
theorem hand_three {l : List UInt8} (h : ¬ 2 < l.length) : hand l = false := by
  match l, h with
  | [], _ | [_], _ | [_, _], _ => rfl
  | x :: y :: z :: r, e => exact absurd (by simp) e
theorem refHandler1 (a : ByteArray) (w : World) (q : Bool) (hq : hand (L a) = q) :
    Calls Try.prog 11 #[.string a] w fun r w' => r = .returned (.bool q) ∧ w = w' := by
  by_cases h : 2 < a.size
  · have h0 : 0 < a.size := by omega
    have h1 : 1 < a.size := by omega
    have hc : ((a[0] == 111) && (a[1] == 110)) = q := by
      rw [← hq]
      have d0 := drop_cons a 0 h0
      have d1 := drop_cons a 1 h1
      have hl : 2 < (L a).length := by rw [size_L]; exact h
      match hL : L a, hl with
      | x :: y :: z :: r, _ =>
        rw [hL] at d0 d1
        simp only [List.drop_zero, List.drop_succ_cons, List.cons.injEq] at d0 d1
        rw [← d0.1, ← d1.1]
        rfl
    have u0 : ((a[0].toNat : Int) == 111) = (a[0] == 111) := u8_eq (b := 111)
    have u1 : ((a[1].toNat : Int) == 110) = (a[1] == 110) := u8_eq (b := 110)
    obtain ⟨b0, e0⟩ : ∃ b, (a[0] == 111) = b := ⟨_, rfl⟩
    obtain ⟨b1, e1⟩ : ∃ b, (a[1] == 110) = b := ⟨_, rfl⟩
    rw [e0, e1] at hc
    rw [e0] at u0
    rw [e1] at u1
    have HC := Lib.hid hc
    clear hq hc e0 e1
    have h' : (2 : Int) < a.size := by omega
    cases b0 with
    | true =>
      go_enter Try.func11, Try.ntmps11
      go_wp2
      go_ret
      exact ⟨ret_bool (by rw [← HC.out]; simp), rfl⟩
    | false =>
      go_enter Try.func11, Try.ntmps11
      go_wp2
      go_ret
      exact ⟨ret_bool (by rw [← HC.out]; rfl), rfl⟩
  · have h' : decide ((2 : Int) < a.size) = false := decide_eq_false (by omega)
    have : q = false := by
      rw [← hq]
      exact hand_three (by rw [size_L]; exact h)
    subst this
    clear hq
    go_enter Try.func11, Try.ntmps11
    go_wp2
    go_ret
    exact ⟨rfl, rfl⟩

theorem plain1 (s : ByteArray) (w : World) (hs : s.size ≤ 140737488355328) (q : Bool) (hq : decide ((32 : UInt8) ∉ L s) = q) :
    Calls Try.prog 29 #[.string s] w fun r w' => r = .returned (.bool q) ∧ w = w' := by
  have HQ := Lib.hid hq
  clear hq
  go_enter Try.func29, Try.ntmps29
  go_wp2
  go_loop [3] (fun i => ∃ k : Nat, i = .int .i64 k ∧ k ≤ s.size ∧ Hid ((32 : UInt8) ∉ (L s).take k)) (fun i => s.size - (intOf i).toNat)
  case atStart => exact ⟨0, rfl, Nat.zero_le _, Lib.hid (by simp)⟩
  case round =>
    obtain ⟨k, rfl, hk, hn⟩ := hrel
    by_cases hp : k < s.size
    · have ht := take_snoc s k hp
      have HT := Lib.hid ht
      clear ht
      have u32 : ((s[k].toNat : Int) == 32) = (s[k] == 32) := u8_eq (b := 32)
      obtain ⟨b, hb⟩ : ∃ b, (s[k] == 32) = b := ⟨_, rfl⟩
      rw [hb] at u32
      have HB := Lib.hid hb
      cases b with
      | true =>
        have he : q = false := by
          rw [← HQ.out]
          refine decide_eq_false fun h => h ?_
          have := HT.out ▸ List.mem_append_right ((L s).take k) (List.mem_singleton.2 (eq_of_beq hb).symm)
          exact List.mem_of_mem_take this
        subst he
        clear HQ hb
        go_wp2
        go_ret
        exact ⟨rfl, rfl⟩
      | false =>
        have hn' : (32 : UInt8) ∉ (L s).take (k + 1) := by
          rw [HT.out, List.mem_append]
          rintro (h | h)
          · exact hn.out h
          · rw [← List.mem_singleton.1 h] at hb
            cases hb
        have HN := Lib.hid hn'
        clear hn' hb
        go_wp2
        go_round
        case rel => exact ⟨k + 1, by go_num, by omega, HN⟩
        case measure => simp [intOf]; omega
    · have he : q = true := by
        rw [← HQ.out]
        have := hn.out
        rw [List.take_of_length_le (by rw [size_L]; omega)] at this
        exact decide_eq_true this
      subst he
      clear HQ
      go_wp2
      go_ret
      exact ⟨rfl, rfl⟩

/-! ### Pairs, joined by a blank. -/
theorem joined_any (P : List (ByteArray × ByteArray)) (e a : ByteArray) : (P.any fun p => decide (joinP p = joinP (e, a))) = isIn (joinP (e, a)) (P.map joinP) := by
  rw [Bool.eq_iff_iff, List.any_eq_true]
  constructor
  · rintro ⟨p, hp, h⟩
    exact isIn_yes (by rw [← of_decide_eq_true h]; exact List.mem_map.2 ⟨p, hp, rfl⟩)
  · intro h
    obtain ⟨p, hp, hj⟩ := List.mem_map.1 (isIn_of h)
    exact ⟨p, hp, decide_eq_true hj⟩
theorem sv2 (w : World) (x y : ByteArray) : Rd (w.alloc (.cells #[.string x, .string y] 9)) (w.alloc (.cells #[.string x, .string y] 9)).heap.size (some ⟨w.heap.size, 0, none⟩) [x, y] := (sv_lit w [x, y]).rd
theorem has2 (x y s : ByteArray) (w : World) (q : Bool) (hq : isIn s [x, y] = q) : Calls Try.prog 17 #[.slice (some ⟨w.heap.size, 0, none⟩) 2 2, .string s] (w.alloc (.cells #[.string x, .string y] 9)) fun e w' => e = .returned (.bool q) ∧ (w.alloc (.cells #[.string x, .string y] 9)) = w' := by
  have := has_any (some ⟨w.heap.size, 0, none⟩) 2 _ [x, y] s _ (sv2 w x y) (by simp)
  rw [hq] at this
  exact this
set_option maxRecDepth 100000 in
set_option maxHeartbeats 1000000 in
theorem pair_any (A : Option Addr) (c N : Nat) (l : List ByteArray) (e a : ByteArray) (w : World) (hr : Rd w N A l) (hN : N ≤ w.heap.size) (hl : l.length ≤ 1000000) (he : e.size ≤ 140737488355328) (ha : a.size ≤ 140737488355328) (q : Bool) (hq : (isIn (joinP (e, a)) l && namesB e a) = q) :
    Calls Try.prog 23 #[.slice A l.length c, .string e, .string a] w fun r w' => r = .returned (.bool q) ∧ Below w.heap.size w w' := by
  obtain ⟨t, ht⟩ : ∃ t, e ++ ⟨#[32]⟩ ++ a = t := ⟨_, rfl⟩
  have hjt : joinP (e, a) = t := ht
  rw [hjt] at hq
  obtain ⟨p2, hp2⟩ : ∃ b, decide ((32 : UInt8) ∉ L e) = b := ⟨_, rfl⟩
  obtain ⟨p1, hp1⟩ : ∃ b, isIn (⟨#[]⟩ : ByteArray) [e, a] = b := ⟨_, rfl⟩
  unfold namesB at hq
  rw [hp1, hp2] at hq
  have HQ := Lib.hid hq; have H1 := Lib.hid hp1; have H2 := Lib.hid hp2; have HT := Lib.hid ht
  have hs1 : ¬ 9223372036854775807 < e.size + 1 := by omega
  have hs2 : ¬ 9223372036854775807 < e.size + 1 + a.size := by omega
  clear hq hp1 hp2 ht hjt
  go_enter Try.func23, Try.ntmps23
  go_wp2
  go_loopw [7] (fun i wr => ∃ k : Nat, i = .int .i64 k ∧ k ≤ l.length ∧ Hid (q = true → t ∉ l.take k) ∧ Below w.heap.size w wr) (fun i _ => l.length - (intOf i).toNat)
  case atStart => exact ⟨0, rfl, Nat.zero_le _, Lib.hid (by simp), Below.refl _ _⟩
  case round =>
    obtain ⟨k, rfl, hk, hn, hbel⟩ := hrel
    have hsz := hbel.size
    by_cases hp : k < l.length
    · obtain ⟨b, off, rfl, hbN, hc⟩ := hr (by omega)
      have hcell := (hbel.cell (p := ⟨b, off + k, none⟩) (Nat.lt_of_lt_of_le hbN hN)).trans (hc k hp)
      clear hc hr
      have heq := eq_of_toList (a := l[k]) (b := e ++ ⟨#[32]⟩ ++ a)
      rw [HT.out] at heq
      by_cases hx : l[k] = t
      · rw [decide_eq_true hx] at heq
        rw [← HT.out] at heq
        have HX := Lib.hid hx; clear hx
        have htl : isIn t l = true := isIn_yes (by have := HX.out; rw [← this]; exact List.getElem_mem _)
        have hq' : (!p1 && p2) = q := by
          have := HQ.out
          rw [htl, Bool.true_and] at this
          exact this
        have HQ' := Lib.hid hq'
        clear hq' htl hn HQ
        go_wp2_with fail
        refine (has2 e a _ _ p1 H1.out).mono ?_
        rintro r w1 ⟨rfl, rfl⟩
        have hb1 := Lib.hid (hbel.alloc hsz (.cells #[.string e, .string a] 9))
        cases p1 with
        | true =>
          have hf : q = true → t ∉ l.take (k + 1) := fun h => by
            rw [← HQ'.out] at h
            cases h
          have HF := Lib.hid hf
          clear hf
          go_wp2
          go_roundw
          case rel => exact ⟨k + 1, by go_num, by omega, HF, hb1.out⟩
          case measure => simp [intOf]; omega
        | false =>
          go_wp2_with fail
          refine (plain1 e _ he p2 H2.out).mono ?_
          rintro r w2 ⟨rfl, rfl⟩
          cases p2 with
          | true =>
            go_wp2
            go_ret
            exact ⟨ret_bool (by rw [← HQ'.out]; rfl), hb1.out⟩
          | false =>
            have hf : q = true → t ∉ l.take (k + 1) := fun h => by
              rw [← HQ'.out] at h
              cases h
            have HF := Lib.hid hf
            clear hf
            go_wp2
            go_roundw
            case rel => exact ⟨k + 1, by go_num, by omega, HF, hb1.out⟩
            case measure => simp [intOf]; omega
      · rw [decide_eq_false hx] at heq
        rw [← HT.out] at heq
        have HX := Lib.hid hx; clear hx
        have hn' : q = true → t ∉ l.take (k + 1) := fun h => has_snoc l t k hp (hn.out h) HX.out
        have HN := Lib.hid hn'
        clear hn hn'
        go_wp2
        go_roundw
        case rel => exact ⟨k + 1, by go_num, by omega, HN, hbel⟩
        case measure => simp [intOf]; omega
    · have he : q = false := by
        rw [← Bool.not_eq_true]
        intro h
        have h1 := hn.out h
        rw [List.take_of_length_le (by omega)] at h1
        have h2 := HQ.out
        rw [h, Bool.and_eq_true] at h2
        exact h1 (isIn_of h2.1)
      subst he
      clear HQ
      go_wp2
      go_ret
      exact ⟨rfl, hbel⟩
theorem below_lit (w : World) (l : List ByteArray) : Below w.heap.size w (w.alloc (.cells (l.map sc).toArray 9)) := below_one w _
theorem leads1 (w : World) : Calls Try.prog 24 #[] w fun r w' => r = .returned (.slice (some ⟨w.heap.size, 0, none⟩) 9 9) ∧ Rd w' w'.heap.size (some ⟨w.heap.size, 0, none⟩) (leadsL.map joinP) ∧ Below w.heap.size w w' := by
  have hs := (sv_lit w (leadsL.map joinP)).rd
  have hb := below_lit w (leadsL.map joinP)
  go_enter Try.func24, Try.ntmps24
  go_wp2
  go_ret
  exact ⟨rfl, hs, hb⟩
theorem takes1 (w : World) : Calls Try.prog 25 #[] w fun r w' => r = .returned (.slice (some ⟨w.heap.size, 0, none⟩) 3 3) ∧ Rd w' w'.heap.size (some ⟨w.heap.size, 0, none⟩) (takesL.map joinP) ∧ Below w.heap.size w w' := by
  have hs := (sv_lit w (takesL.map joinP)).rd
  have hb := below_lit w (takesL.map joinP)
  go_enter Try.func25, Try.ntmps25
  go_wp2
  go_ret
  exact ⟨rfl, hs, hb⟩
theorem unsafe1 (w : World) : Calls Try.prog 18 #[] w fun r w' => r = .returned (.slice (some ⟨w.heap.size, 0, none⟩) 8 8) ∧ Rd w' w'.heap.size (some ⟨w.heap.size, 0, none⟩) unsafeL ∧ Below w.heap.size w w' := by
  have hs := (sv_lit w unsafeL).rd
  have hb := below_lit w unsafeL
  go_enter Try.func18, Try.ntmps18
  go_wp2
  go_ret
  exact ⟨rfl, hs, hb⟩

theorem refNav1 (e a : ByteArray) (he : e.size ≤ 140737488355328) (ha : a.size ≤ 140737488355328) (w : World) (q : Bool) (hq : navB e a = q) :
    Calls Try.prog 13 #[.string e, .string a] w fun r w' => r = .returned (.bool q) ∧ Below w.heap.size w w' := by
  have hq' : (isIn (joinP (e, a)) (leadsL.map joinP) && namesB e a) = q := by
    rw [← hq, ← joined_any]
    exact (pair_ref good_leads e a).symm
  have HQ := Lib.hid hq'
  clear hq hq'
  go_enter Try.func13, Try.ntmps13
  go_wp2_with fail
  refine (leads1 w).mono ?_
  rintro r w1 ⟨rfl, s1, b1⟩
  have S1 := Lib.hid s1; have B1 := Lib.hid b1
  clear s1 b1
  go_wp2_with fail
  refine (pair_any _ 9 _ (leadsL.map joinP) e a w1 S1.out (Nat.le_refl _) (by decide) he ha q HQ.out).mono ?_
  rintro r w2 ⟨rfl, b2⟩
  have B2 := Lib.hid (B1.out.trans (b2.mono B1.out.size))
  clear b2
  go_wp2
  go_ret
  exact ⟨rfl, B2.out⟩
theorem sinkN_of {e a : ByteArray} {p d : Bool} (hh : hand (L a) = false) (hp : pairB takesL e a = p) (hd : docB e a = d) : sinkN e a = if p = true then 3 else if d = true then 1 else 0 := by
  unfold sinkN
  rw [if_neg (by rw [hh]; decide), hp, hd]
theorem refSink1 (e a : ByteArray) (he : e.size ≤ 140737488355328) (ha : a.size ≤ 140737488355328) (w : World) (n : Nat) (hn : sinkN e a = n) :
    Calls Try.prog 15 #[.string e, .string a] w fun r w' => r = .returned (.int .i64 n) ∧ Below w.heap.size w w' := by
  cases hh : hand (L a) with
  | true =>
    have : n = 2 := by rw [← hn]; unfold sinkN; rw [if_pos hh]
    subst this
    clear hn
    go_enter Try.func15, Try.ntmps15
    go_wp2_with fail
    refine (refHandler1 a w true hh).mono ?_
    rintro r w1 ⟨rfl, rfl⟩
    clear hh
    go_wp2
    go_ret
    exact ⟨rfl, Below.refl _ _⟩
  | false =>
  obtain ⟨p, hp⟩ : ∃ p, pairB takesL e a = p := ⟨_, rfl⟩
  have hq' : (isIn (joinP (e, a)) (takesL.map joinP) && namesB e a) = p := by
    rw [← hp, ← joined_any]
    exact (pair_ref good_takes e a).symm
  obtain ⟨d1, hd1⟩ : ∃ d, (e.toList == [105, 102, 114, 97, 109, 101]) = d := ⟨_, rfl⟩
  obtain ⟨d2, hd2⟩ : ∃ d, (a.toList == [115, 114, 99, 100, 111, 99]) = d := ⟨_, rfl⟩
  have hd : docB e a = (d1 && d2) := by
    rw [eqlit] at hd1 hd2
    rw [← hd1, ← hd2]
    rfl
  have hs := sinkN_of hh hp hd
  rw [hn] at hs
  have HQ := Lib.hid hq'; have HS := Lib.hid hs; have HH := Lib.hid hh
  clear hq' hs hd hp hn hh
  go_enter Try.func15, Try.ntmps15
  go_wp2_with fail
  refine (refHandler1 a w false HH.out).mono ?_
  rintro r w0 ⟨rfl, rfl⟩
  go_wp2_with fail
  refine (takes1 w).mono ?_
  rintro r w1 ⟨rfl, s1, b1⟩
  have S1 := Lib.hid s1; have B1 := Lib.hid b1
  clear s1 b1
  go_wp2_with fail
  refine (pair_any _ 3 _ (takesL.map joinP) e a w1 S1.out (Nat.le_refl _) (by decide) he ha p HQ.out).mono ?_
  rintro r w2 ⟨rfl, b2⟩
  have B2 := Lib.hid (B1.out.trans (b2.mono B1.out.size))
  clear b2
  cases p with
  | true =>
    go_wp2
    go_ret
    exact ⟨ret_int (by rw [HS.out]; rfl), B2.out⟩
  | false =>
    cases d1 with
    | false =>
      go_wp2
      go_ret
      exact ⟨ret_int (by rw [HS.out]; rfl), B2.out⟩
    | true =>
      cases d2 with
      | false =>
        go_wp2
        go_ret
        exact ⟨ret_int (by rw [HS.out]; rfl), B2.out⟩
      | true =>
        go_wp2
        go_ret
        exact ⟨ret_int (by rw [HS.out]; rfl), B2.out⟩

theorem js_name {v x : ByteArray} (hx : B (schemeL (L v)) = x) : (x.toList == [106, 97, 118, 97, 115, 99, 114, 105, 112, 116]) = scriptL (L v) := by
  rw [← hx]
  exact js_list _
set_option maxRecDepth 100000 in
theorem refAttr1 (e : ByteArray) (a : At) (he : e.size ≤ 140737488355328) (ha : a.name.size ≤ 140737488355328) (hv : a.value.size ≤ 140737488355328) (w : World) (q : Bool) (hq : attrB e a = q) :
    Calls Try.prog 20 #[.string e, .agg #[.string a.name, .string a.value]] w fun r w' => r = .returned (.bool q) ∧ Below w.heap.size w w' := by
  obtain ⟨n, v⟩ := a
  simp only at ha hv ⊢
  obtain ⟨k, hk⟩ : ∃ k, sinkN e n = k := ⟨_, rfl⟩
  obtain ⟨b, hb⟩ : ∃ b, navB e n = b := ⟨_, rfl⟩
  obtain ⟨x, hx⟩ : ∃ x, B (schemeL (L v)) = x := ⟨_, rfl⟩
  obtain ⟨y, hy⟩ : ∃ y, hasL (L v) = y := ⟨_, rfl⟩
  obtain ⟨s, hs⟩ : ∃ s, scriptL (L v) = s := ⟨_, rfl⟩
  have hj := js_name hx
  rw [hs] at hj
  have hsv : schemeV (schemeO (L v)) = .tuple #[.string x, .bool y] := by rw [← hx, ← hy]; rfl
  have hq' : (decide (k ≠ 0) || (b && s)) = q := by
    rw [← hq, ← hk, ← hb, ← hs]
    rfl
  have HK := Lib.hid hk; have HB := Lib.hid hb; have HQ := Lib.hid hq'; have HSV := Lib.hid hsv
  clear hk hb hs hq hq' hx hy hsv
  go_enter Try.func20, Try.ntmps20
  go_wp2_with fail
  have K := refScheme_any v (w.alloc (.cells #[.string n, .string v] 30)) hv
  rw [HSV.out] at K
  refine K.mono ?_
  rintro r w1 ⟨rfl, b1⟩
  have c0 := abox_kept b1 0
  simp only [Ro.acells, List.getElem?_cons_zero] at c0
  have hlt : w.heap.size < w1.heap.size := Nat.lt_of_lt_of_le (by simp) b1.size
  have B1 := Lib.hid ((Ro.below_new w _).trans (b1.mono (by simp)))
  clear b1 K
  go_wp2_with fail
  refine (refSink1 e n he ha _ k HK.out).mono ?_
  rintro r w2 ⟨rfl, b2⟩
  have d0 := (b2.cell (p := ⟨w.heap.size, 0, none⟩) hlt).trans c0
  have B2 := Lib.hid (B1.out.trans (b2.mono B1.out.size))
  clear b2 c0
  by_cases h0 : k = 0
  · subst h0
    go_wp2_with fail
    refine (refNav1 e n he ha _ b HB.out).mono ?_
    rintro r w3 ⟨rfl, b3⟩
    have B3 := Lib.hid (B2.out.trans (b3.mono B2.out.size))
    clear b3
    cases b with
    | true =>
      cases s with
      | true =>
        go_wp2
        go_ret
        exact ⟨ret_bool (by rw [← HQ.out]; rfl), B3.out⟩
      | false =>
        go_wp2
        go_ret
        exact ⟨ret_bool (by rw [← HQ.out]; rfl), B3.out⟩
    | false =>
      go_wp2
      go_ret
      exact ⟨ret_bool (by rw [← HQ.out]; rfl), B3.out⟩
  · have h0n : ¬ (k : Int) = 0 := by omega
    have hq1 : true = q := by rw [← HQ.out, decide_eq_true h0]; rfl
    subst hq1
    go_wp2
    go_ret
    exact ⟨rfl, B2.out⟩
end Go.Proofs.Ytkogkildipmnpaa.Rk

namespace Go.Proofs.Ytkogkildipmnpaa.Rk
set_option maxRecDepth 100000
set_option linter.unusedVariables false
set_option linter.unusedSimpArgs false
open Go.RowKit Go.Maps Ba Fm Lk Ml Fo
open Ro (At Ro Cw ros Rv Rr Att cells)
theorem rv_nil (w : World) : Rv w (.slice none 0 0) [] := ⟨none, 0, rfl, Nat.le_refl _, Nat.zero_le _, Rr.nil _ _ _, fun _ h => by cases h⟩
theorem x0 : attrB ⟨#[97]⟩ ⟨⟨#[104, 114, 101, 102]⟩, ⟨#[106, 97, 118, 97, 115, 99, 114, 105, 112, 116, 58, 120]⟩⟩ = true := by kernel_rfl
theorem x1 : attrB ⟨#[97]⟩ ⟨⟨#[104, 114, 101, 102]⟩, ⟨#[104, 116, 116, 112, 115, 58, 120]⟩⟩ = false := by kernel_rfl
theorem x2 : sinkN ⟨#[100, 105, 118]⟩ ⟨#[111, 110, 99, 108, 105, 99, 107]⟩ = 2 := by kernel_rfl
theorem x3 : hand (L ⟨#[111, 110]⟩) = false := by kernel_rfl
theorem x4 : navB ⟨#[102, 111, 114, 109]⟩ ⟨#[97, 99, 116, 105, 111, 110]⟩ = true := by kernel_rfl
theorem x5 : navB ⟨#[100, 105, 118]⟩ ⟨#[97, 99, 116, 105, 111, 110]⟩ = false := by kernel_rfl
theorem x6 : sinkN ⟨#[105, 102, 114, 97, 109, 101]⟩ ⟨#[115, 114, 99, 100, 111, 99]⟩ = 1 := by kernel_rfl
theorem x7 : sinkN ⟨#[115, 99, 114, 105, 112, 116]⟩ ⟨#[115, 114, 99]⟩ = 3 := by kernel_rfl
theorem x8 : sinkN ⟨#[105, 109, 103]⟩ ⟨#[115, 114, 99]⟩ = 0 := by kernel_rfl
theorem x9 : neverB ⟨#[115, 99, 114, 105, 112, 116]⟩ = true := by kernel_rfl
theorem x10 : neverB ⟨#[98]⟩ = false := by kernel_rfl
def scR : Ro := ⟨0, 0, ⟨#[115, 99, 114, 105, 112, 116]⟩, ⟨#[]⟩, []⟩
def scC : Cw := Ro.bare scR
theorem x12 : safeB (ros [scC]) = false := by kernel_rfl
theorem sc_new (w : World) : Rv (w.alloc (.cells #[.int .i64 0, .int .i64 0, .string ⟨#[115, 99, 114, 105, 112, 116]⟩, .string ⟨#[]⟩, .slice none 0 0] 37)) (.slice (some ⟨w.heap.size, 0, none⟩) 1 1) [scC] :=
  (Ro.rows_new w [scC] _ 1 rfl (by decide) rfl (fun x hx => ⟨scR, List.mem_singleton.1 hx, rfl⟩)).rv (fun x hx => by
    have := List.mem_singleton.1 hx
    subst this
    show (-9223372036854775808 : Int) ≤ 0 ∧ (0 : Int) ≤ 9223372036854775807
    omega)
theorem sc_small : Rz.Small (ros [scC]) := fun x hx => by
  have := List.mem_singleton.1 hx
  subst this
  exact ⟨by decide, by decide, fun _ h => by cases h⟩
theorem fixed10_any (w : World) : Calls Try.prog 9 #[] w fun e w' => e = .returned (.bool true) ∧ Below w.heap.size w w' := by
  go_enter Try.func9, Try.ntmps9
  go_wp2_with fail
  refine (attr1 ⟨#[97]⟩ ⟨⟨#[104, 114, 101, 102]⟩, ⟨#[106, 97, 118, 97, 115, 99, 114, 105, 112, 116, 58, 120]⟩⟩ (by decide) (by decide) (by decide) w true x0).mono ?_
  rintro r w1 ⟨rfl, b1⟩
  go_wp2_with fail
  refine (attr1 ⟨#[97]⟩ ⟨⟨#[104, 114, 101, 102]⟩, ⟨#[104, 116, 116, 112, 115, 58, 120]⟩⟩ (by decide) (by decide) (by decide) w1 false x1).mono ?_
  rintro r w2 ⟨rfl, b2⟩
  go_wp2_with fail
  refine (sink1 ⟨#[100, 105, 118]⟩ ⟨#[111, 110, 99, 108, 105, 99, 107]⟩ (by decide) (by decide) w2 2 x2).mono ?_
  rintro r w3 ⟨rfl, b3⟩
  go_wp2_with fail
  refine (handler1 ⟨#[111, 110]⟩ w3 false x3).mono ?_
  rintro r v3 ⟨rfl, rfl⟩
  go_wp2_with fail
  refine (nav1 ⟨#[102, 111, 114, 109]⟩ ⟨#[97, 99, 116, 105, 111, 110]⟩ (by decide) (by decide) w3 true x4).mono ?_
  rintro r w5 ⟨rfl, b5⟩
  go_wp2_with fail
  refine (nav1 ⟨#[100, 105, 118]⟩ ⟨#[97, 99, 116, 105, 111, 110]⟩ (by decide) (by decide) w5 false x5).mono ?_
  rintro r w6 ⟨rfl, b6⟩
  go_wp2_with fail
  refine (sink1 ⟨#[105, 102, 114, 97, 109, 101]⟩ ⟨#[115, 114, 99, 100, 111, 99]⟩ (by decide) (by decide) w6 1 x6).mono ?_
  rintro r w7 ⟨rfl, b7⟩
  go_wp2_with fail
  refine (sink1 ⟨#[115, 99, 114, 105, 112, 116]⟩ ⟨#[115, 114, 99]⟩ (by decide) (by decide) w7 3 x7).mono ?_
  rintro r w8 ⟨rfl, b8⟩
  go_wp2_with fail
  refine (sink1 ⟨#[105, 109, 103]⟩ ⟨#[115, 114, 99]⟩ (by decide) (by decide) w8 0 x8).mono ?_
  rintro r w9 ⟨rfl, b9⟩
  go_wp2_with fail
  refine (element1 ⟨#[115, 99, 114, 105, 112, 116]⟩ w9 true x9).mono ?_
  rintro r v9 ⟨rfl, rfl⟩
  go_wp2_with fail
  refine (element1 ⟨#[98]⟩ w9 false x10).mono ?_
  rintro r v10 ⟨rfl, rfl⟩
  go_wp2_with fail
  refine (safe1 (.slice none 0 0) [] w9 (rv_nil w9) (fun _ h => by cases h) true rfl).mono ?_
  rintro r w12 ⟨rfl, b12⟩
  go_wp2_with fail
  refine (safe1 _ [scC] _ (sc_new w12) sc_small false x12).mono ?_
  rintro r w13 ⟨rfl, b13⟩
  go_wp2
  go_ret
  exact ⟨rfl, bt b1 (bt b2 (bt b3 (bt b5 (bt b6 (bt b7 (bt b8 (bt b9 (bt b12 (((below_one w12 _).trans (b13.mono (by simp))))))))))))⟩
end Go.Proofs.Ytkogkildipmnpaa.Rk

namespace Go.Proofs.Ytkogkildipmnpaa.Rk
set_option maxRecDepth 100000
set_option linter.unusedVariables false
set_option linter.unusedSimpArgs false
open Go.RowKit Go.Maps Ba Fm Lk Ml Fo
open Ro (At Ro Cw ros Rv Rr Att cells)
theorem law_names (e a : ByteArray) (he : e.size ≤ 140737488351232) (ha : a.size ≤ 140737488351232) (w : World) :
    Calls Try.prog 3 #[.string e, .string a] w fun r w' => r = .returned (.bool true) ∧ Below w.heap.size w w' := by
  have he' : e.size ≤ 140737488355328 := by omega
  have ha' : a.size ≤ 140737488355328 := by omega
  obtain ⟨q1, h1⟩ : ∃ q, hand (L a) = q := ⟨_, rfl⟩
  obtain ⟨q2, h2⟩ : ∃ q, navB e a = q := ⟨_, rfl⟩
  obtain ⟨q3, h3⟩ : ∃ q, sinkN e a = q := ⟨_, rfl⟩
  obtain ⟨q4, h4⟩ : ∃ q, neverB e = q := ⟨_, rfl⟩
  have H1 := Lib.hid h1; have H2 := Lib.hid h2; have H3 := Lib.hid h3; have H4 := Lib.hid h4
  clear h1 h2 h3 h4
  go_enter Try.func3, Try.ntmps3
  go_wp2_with fail
  refine (fixed10_any w).mono ?_
  rintro r w1 ⟨rfl, b1⟩
  go_wp2_with fail
  refine (handler1 a _ q1 H1.out).mono ?_
  rintro r v ⟨rfl, rfl⟩
  go_wp2_with fail
  refine (refHandler1 a _ q1 H1.out).mono ?_
  rintro r v ⟨rfl, rfl⟩
  have B1 := Lib.hid b1
  clear b1
  cases q1
  all_goals
    go_wp2_with fail
    refine (nav1 e a he' ha' _ q2 H2.out).mono ?_
    rintro r w2 ⟨rfl, b2⟩
    go_wp2_with fail
    refine (refNav1 e a he' ha' _ q2 H2.out).mono ?_
    rintro r w3 ⟨rfl, b3⟩
    have B3 := Lib.hid (bt B1.out (bt b2 b3))
    clear b2 b3
    cases q2
    all_goals
      go_wp2_with fail
      refine (sink1 e a he' ha' _ q3 H3.out).mono ?_
      rintro r w4 ⟨rfl, b4⟩
      go_wp2_with fail
      refine (refSink1 e a he' ha' _ q3 H3.out).mono ?_
      rintro r w5 ⟨rfl, b5⟩
      have B5 := Lib.hid (bt B3.out (bt b4 b5))
      clear b4 b5
      go_wp2_with fail
      refine (element1 e _ q4 H4.out).mono ?_
      rintro r v ⟨rfl, rfl⟩
      go_wp2_with fail
      refine (unsafe1 _).mono ?_
      rintro r w6 ⟨rfl, s6, b6⟩
      have S6 := Lib.hid s6
      clear s6
      go_wp2_with fail
      refine (has_any _ 8 _ unsafeL e w6 S6.out (by decide)).mono ?_
      rintro r v ⟨rfl, rfl⟩
      have hq : isIn e unsafeL = q4 := H4.out
      rw [hq]
      clear hq
      cases q4
      all_goals
        go_wp2
        go_ret
        exact ⟨rfl, bt B5.out b6⟩

theorem law_links (e a s : ByteArray) (he : e.size ≤ 140737488351232) (ha : a.size ≤ 140737488351232) (hs : s.size ≤ 140737488351232) (w : World) :
    Calls Try.prog 7 #[.string e, .string a, .string s] w fun r w' => r = .returned (.bool true) ∧ Below w.heap.size w w' := by
  have he' : e.size ≤ 140737488355328 := by omega
  have ha' : a.size ≤ 140737488355328 := by omega
  obtain ⟨k, hk1, hk2, -, hmin1⟩ := cut_any s.size 200 200 rfl w
  obtain ⟨u, hu⟩ : ∃ u, s.extract 0 k = u := ⟨_, rfl⟩
  have hus : u.size ≤ 200 := by rw [← hu]; exact Nat.le_trans (cut_le s k) hk2
  obtain ⟨x, hx⟩ : ∃ x, (⟨#[106, 97, 118, 97, 115, 99, 114, 105, 112, 116, 58]⟩ : ByteArray) ++ u = x := ⟨_, rfl⟩
  obtain ⟨y, hy⟩ : ∃ y, (⟨#[104, 116, 116, 112, 115, 58]⟩ : ByteArray) ++ u = y := ⟨_, rfl⟩
  have hxs : x.size ≤ 140737488355328 := by
    have : (⟨#[106, 97, 118, 97, 115, 99, 114, 105, 112, 116, 58]⟩ : ByteArray).size = 11 := rfl
    rw [← hx, size_append]; omega
  have hys : y.size ≤ 140737488355328 := by
    have : (⟨#[104, 116, 116, 112, 115, 58]⟩ : ByteArray).size = 6 := rfl
    rw [← hy, size_append]; omega
  obtain ⟨n, hn⟩ : ∃ n, sinkN e a = n := ⟨_, rfl⟩
  obtain ⟨b, hb⟩ : ∃ b, navB e a = b := ⟨_, rfl⟩
  have hjs : attrB e ⟨a, x⟩ = (decide (n ≠ 0) || b) := by
    rw [attr_js e a x (by rw [← hx, L_append]; exact js_any _), hn, hb]
  have hno : attrB e ⟨a, y⟩ = decide (n ≠ 0) := by
    rw [attr_no e a y (by rw [← hy, L_append]; exact https_any _), hn]
  have hp1 : ¬ 9223372036854775807 < 11 + u.size := by omega
  have hp2 : ¬ 9223372036854775807 < 6 + u.size := by omega
  have HU := Lib.hid hu; have HX := Lib.hid hx; have HY := Lib.hid hy; have HN := Lib.hid hn; have HB := Lib.hid hb
  obtain ⟨t, htn⟩ : ∃ t, decide (n ≠ 0) = t := ⟨_, rfl⟩
  rw [htn] at hjs hno
  have HJ := Lib.hid hjs; have HO := Lib.hid hno; have HT := Lib.hid htn
  clear hu hx hy hn hb hjs hno htn
  go_enter Try.func7, Try.ntmps7
  go_wp2_with fail
  simp only [HU.out, HX.out]
  refine (attr1 e ⟨a, x⟩ he' ha' hxs w (t || b) HJ.out).mono ?_
  rintro r w1 ⟨rfl, b1⟩
  clear hmin1
  go_wp2_with fail
  simp only [HY.out]
  refine (attr1 e ⟨a, y⟩ he' ha' hys w1 t HO.out).mono ?_
  rintro r w2 ⟨rfl, b2⟩
  go_wp2_with fail
  refine (sink1 e a he' ha' w2 n HN.out).mono ?_
  rintro r w3 ⟨rfl, b3⟩
  have B3 := Lib.hid (bt b1 (bt b2 b3))
  clear b1 b2 b3
  by_cases h0 : n = 0
  · subst h0
    obtain rfl : false = t := HT.out
    go_wp2_with fail
    refine (nav1 e a he' ha' w3 b HB.out).mono ?_
    rintro r w4 ⟨rfl, b4⟩
    cases b
    all_goals
      go_wp2_with fail
      refine (fixed10_any w4).mono ?_
      rintro r w5 ⟨rfl, b5⟩
      go_wp2
      go_ret
      exact ⟨rfl, bt B3.out (bt b4 b5)⟩
  · have h0n : ¬ (n : Int) = 0 := by omega
    obtain rfl : true = t := by rw [← HT.out]; exact (decide_eq_true h0).symm
    go_wp2_with fail
    refine (fixed10_any w3).mono ?_
    rintro r w5 ⟨rfl, b5⟩
    go_wp2
    go_ret
    exact ⟨ret_bool (a := ((n : Int) != 0)) (bne_iff_ne.2 h0n), bt B3.out b5⟩
theorem cutw_any (x : Nat) (m : Nat) (M : Int) (hM : M = m) : ∃ k : Nat, k ≤ x ∧ k ≤ m ∧ ∀ w ts t, (Builtin.min_ ts t #[.int .i64 x, .int .i64 M]).run Try.prog w = .ok (.int .i64 k) w := by
  refine ⟨min x m, Nat.min_le_left _ _, Nat.min_le_right _ _, fun w => ?_⟩
  obtain ⟨k, _, _, e, h⟩ := cut_any x m M hM w
  rw [← e]
  exact h
theorem law_attrs (e : ByteArray) (a : At) (he : e.size ≤ 140737488351232) (ha : a.name.size ≤ 140737488351232) (hv : a.value.size ≤ 140737488351232) (w : World) :
    Calls Try.prog 4 #[.string e, .agg #[.string a.name, .string a.value]] w fun r w' => r = .returned (.bool true) ∧ Below w.heap.size w w' := by
  obtain ⟨n, s⟩ := a
  simp only at ha hv ⊢
  have he' : e.size ≤ 140737488355328 := by omega
  have ha' : n.size ≤ 140737488355328 := by omega
  obtain ⟨k, hk1, hk2, hmin1⟩ := cutw_any s.size 1000 1000 rfl
  obtain ⟨u, hu⟩ : ∃ u, s.extract 0 k = u := ⟨_, rfl⟩
  have hus : u.size ≤ 1000 := by rw [← hu]; exact Nat.le_trans (cut_le s k) hk2
  have hus' : u.size ≤ 140737488355328 := by omega
  obtain ⟨q, hq⟩ : ∃ q, attrB e ⟨n, u⟩ = q := ⟨_, rfl⟩
  have HU := Lib.hid hu; have HQ := Lib.hid hq
  clear hu hq
  go_enter Try.func4, Try.ntmps4
  go_wp2
  simp only [HU.out]
  clear hmin1
  have hlt : w.heap.size < (w.alloc (.cells #[.string n, .string u] 30)).heap.size := by simp
  have z0 := abox_kept (w := w) (n := n) (v := u) (Below.refl _ _) 0
  have z1 := abox_kept (w := w) (n := n) (v := u) (Below.refl _ _) 1
  simp only [Ro.acells, List.getElem?_cons_zero, List.getElem?_cons_succ] at z0 z1
  have B0 := Lib.hid (below_one w (.cells #[.string n, .string u] 30))
  generalize w.alloc (.cells #[.string n, .string u] 30) = w0 at *
  go_region_held3 (fun w' => w'.cell? ⟨w.heap.size, 0, none⟩ = some (.string n) ∧ w'.cell? ⟨w.heap.size, 1, none⟩ = some (.string u)) (first | exact ⟨e0, e1⟩ | exact ⟨d0, d1⟩ | exact ⟨c0, c1⟩ | exact ⟨z0, z1⟩ | go_keep) (first
    | (go_at_call 9; refine (fixed10_any _).mono ?_; rintro r w1 ⟨rfl, b1⟩; have c0 := (b1.cell (p := ⟨w.heap.size, 0, none⟩) hlt).trans z0; have c1 := (b1.cell (p := ⟨w.heap.size, 1, none⟩) hlt).trans z1; have hlt1 := Nat.lt_of_lt_of_le hlt b1.size; have B1 := Lib.hid b1; clear b1)
    | (go_at_call 19; refine (attr1 e ⟨n, u⟩ he' ha' hus' _ q HQ.out).mono ?_; rintro r w2 ⟨rfl, b2⟩; have d0 := (b2.cell (p := ⟨w.heap.size, 0, none⟩) hlt1).trans c0; have d1 := (b2.cell (p := ⟨w.heap.size, 1, none⟩) hlt1).trans c1; have hlt2 := Nat.lt_of_lt_of_le hlt1 b2.size; have B2 := Lib.hid b2; clear b2)
    | (go_at_call 20; refine (refAttr1 e ⟨n, u⟩ he' ha' hus' _ q HQ.out).mono ?_; rintro r w3 ⟨rfl, b3⟩; have e0 := (b3.cell (p := ⟨w.heap.size, 0, none⟩) hlt2).trans d0; have e1 := (b3.cell (p := ⟨w.heap.size, 1, none⟩) hlt2).trans d1; have B3 := Lib.hid b3; clear b3))
  go_wp2
  go_ret
  exact ⟨rfl, bt B0.out (bt (w1 := w1) ⟨B1.out.os, B1.out.tape, B1.out.output, B1.out.size, B1.out.block⟩ (bt B2.out B3.out))⟩
end Go.Proofs.Ytkogkildipmnpaa.Rk

namespace Go.Proofs.Ytkogkildipmnpaa.Rk
set_option maxRecDepth 100000
set_option linter.unusedVariables false
set_option linter.unusedSimpArgs false
open Go.RowKit Go.Maps Ba Fm Lk Ml Fo
open Ro (At Ro Cw ros Rv Rr Att Ap Ow cells acells bare)
/-- Rows freshly written down, with their attributes. -/
theorem rows_lit (w : World) (l : List Cw) (cs : Array Value) (n : Nat) (hn : l.length = n) (hm : n ≤ maxLen) (hcs : cs.toList = l.flatMap cells) (hl : ∀ x ∈ l, Att (w.alloc (.cells cs 37)) (w.alloc (.cells cs 37)).heap.size x ∧ Ap (w.alloc (.cells cs 37)) w.heap.size x) :
    Ow w.heap.size (w.alloc (.cells cs 37)) (.slice (some ⟨w.heap.size, 0, none⟩) n n) l := by
  have hfl : (l.flatMap cells).length = n * 5 := by
    rw [← hn]
    clear hcs hl hn
    induction l with
    | nil => rfl
    | cons x r ih => rw [List.flatMap_cons, List.length_append, ih, List.length_cons]; simp [cells]; omega
  have hsz : cs.size = n * 5 := by rw [← Array.length_toList, hcs, hfl]
  refine ⟨⟨by rw [hn, hfl], .inr ⟨w.heap.size, n, cs, by rw [hn], Nat.le_refl _, heap_alloc_new w _, by rw [hn]; exact Nat.le_refl _, hm, hsz, ?_⟩⟩, hl⟩
  rw [hn, hcs, ← hfl, List.take_length]
/-- A row with one attribute, which lies in block g. -/
def oneA (e n v : ByteArray) (g : Nat) : Cw := ⟨⟨0, 0, e, ⟨#[]⟩, [⟨n, v⟩]⟩, some ⟨g, 0, none⟩, 1⟩
theorem oneA_new (w : World) (e n v : ByteArray) (g : Nat) (cs : Array Value) (hn : n.size ≤ maxLen) (hg : w.heap[g]? = some (.cells #[.string n, .string v] 30)) (hcs : cs.toList = [oneA e n v g].flatMap cells) : Rv (w.alloc (.cells cs 37)) (.slice (some ⟨w.heap.size, 0, none⟩) 1 1) [oneA e n v g] := by
  have hlt : g < w.heap.size := (Array.getElem?_eq_some_iff.1 hg).1
  have hg2 : (w.alloc (.cells cs 37)).heap[g]? = some (.cells #[.string n, .string v] 30) := ((below_one w _).block g hlt).trans hg
  refine (rows_lit w [oneA e n v g] cs 1 rfl (by decide) hcs (fun x hx => ?_)).rv (fun x hx => ?_)
  · rw [List.mem_singleton.1 hx]
    refine ⟨⟨Nat.le_refl _, (fun h => by cases h), (by decide : (1 : Nat) ≤ maxLen), fun _ => ⟨g, 0, rfl, by have := (below_one w (.cells cs 37)).size; show g < _; omega, fun j hj => ?_⟩, ?_⟩, fun _ => ⟨g, 0, rfl, .inl hlt⟩⟩
    · have hj0 : j = 0 := by
        have : j < 1 := hj
        omega
      subst hj0
      intro i u hu
      rw [cell_of_row _ g (0 + 0 * 2 + i) _ _ _ hg2]
      match i, hu with
      | 0, hu => exact hu
      | 1, hu => exact hu
    · intro a ha
      have ha : a ∈ [(⟨n, v⟩ : At)] := ha
      rw [List.mem_singleton.1 ha]
      exact hn
  · have := List.mem_singleton.1 hx
    subst this
    show (-9223372036854775808 : Int) ≤ 0 ∧ (0 : Int) ≤ 9223372036854775807
    omega
def nameC (e : ByteArray) : Cw := bare ⟨0, 0, e, ⟨#[]⟩, []⟩
theorem nameC_new (w : World) (e : ByteArray) (cs : Array Value) (hcs : cs.toList = [nameC e].flatMap cells) : Rv (w.alloc (.cells cs 37)) (.slice (some ⟨w.heap.size, 0, none⟩) 1 1) [nameC e] :=
  (Ro.rows_new w [nameC e] cs 1 rfl (by decide) hcs (fun x hx => ⟨_, List.mem_singleton.1 hx, rfl⟩)).rv (fun x hx => by
    have := List.mem_singleton.1 hx
    subst this
    show (-9223372036854775808 : Int) ≤ 0 ∧ (0 : Int) ≤ 9223372036854775807
    omega)
theorem small_one {x : Ro} (h : Rz.SmallR x) : Rz.Small [x] := fun y hy => by
  rw [List.mem_singleton.1 hy]
  exact h
/-- An element of that name alone: not safe, if it is never safe. -/
theorem safe_name (w : World) (e : ByteArray) (he : e.size ≤ 140737488355328) (cs : Array Value) (hcs : cs.toList = [nameC e].flatMap cells) (hn : neverB e = true) :
    Calls Try.prog 22 #[.slice (some ⟨w.heap.size, 0, none⟩) 1 1] (w.alloc (.cells cs 37)) fun r w' => r = .returned (.bool false) ∧ Below w.heap.size w w' :=
  (safe1 _ [nameC e] _ (nameC_new w e cs hcs) (small_one ⟨he, by show (0 : Nat) ≤ _; omega, fun _ h => by cases h⟩) false (by
    show safeB [(⟨0, 0, e, ⟨#[]⟩, []⟩ : Ro)] = false
    rw [safe_one]
    exact never_row e hn _ _ _)).mono fun r w' ⟨h1, h2⟩ => ⟨h1, (below_one w _).trans (h2.mono (by simp))⟩
/-- An element with one attribute: not safe, if that is a handler. -/
theorem safe_hand (w : World) (e n v : ByteArray) (g : Nat) (he : e.size ≤ 140737488355328) (hn : n.size ≤ 140737488355328) (hv : v.size ≤ 140737488355328) (cs : Array Value) (hg : w.heap[g]? = some (.cells #[.string n, .string v] 30)) (hcs : cs.toList = [oneA e n v g].flatMap cells) (hh : hand (L n) = true) :
    Calls Try.prog 22 #[.slice (some ⟨w.heap.size, 0, none⟩) 1 1] (w.alloc (.cells cs 37)) fun r w' => r = .returned (.bool false) ∧ Below w.heap.size w w' :=
  (safe1 _ [oneA e n v g] _ (oneA_new w e n v g cs (by unfold maxLen; omega) hg hcs) (small_one ⟨he, by show (0 : Nat) ≤ _; omega, fun a ha => by
    have ha : a ∈ [(⟨n, v⟩ : At)] := ha
    rw [List.mem_singleton.1 ha]
    exact ⟨hn, hv⟩⟩) false (by
    show safeB [(⟨0, 0, e, ⟨#[]⟩, [⟨n, v⟩]⟩ : Ro)] = false
    rw [safe_one]
    unfold rowB
    rw [if_pos rfl]
    simp [attr_hand e ⟨n, v⟩ hh])).mono fun r w' ⟨h1, h2⟩ => ⟨h1, (below_one w _).trans (h2.mono (by simp))⟩

theorem law_handlers (e a v : ByteArray) (he : e.size ≤ 140737488351232) (ha : a.size ≤ 140737488351232) (hv : v.size ≤ 140737488351232) (w : World) :
    Calls Try.prog 6 #[.string e, .string a, .string v] w fun r w' => r = .returned (.bool true) ∧ Below w.heap.size w w' := by
  have he' : e.size ≤ 140737488355328 := by omega
  have hv' : v.size ≤ 140737488355328 := by omega
  obtain ⟨q, hq⟩ : ∃ q, neverB e = q := ⟨_, rfl⟩
  have HQ := Lib.hid hq
  clear hq
  by_cases h0 : a = ⟨#[]⟩
  · subst h0
    obtain ⟨k, hk⟩ : ∃ k, attrB e ⟨⟨#[111, 110]⟩, v⟩ = k := ⟨_, rfl⟩
    have HK := Lib.hid hk
    clear hk
    have hon : (⟨#[111, 110]⟩ : ByteArray) ++ ⟨#[]⟩ = ⟨#[111, 110]⟩ := by decide +kernel
    go_enter Try.func6, Try.ntmps6
    go_wp2_with fail
    refine (attr1 e ⟨⟨#[111, 110]⟩, v⟩ he' (show (2 : Nat) ≤ 140737488355328 by omega) hv' _ k HK.out).mono ?_
    rintro r w1 ⟨rfl, b1⟩
    have B1 := Lib.hid ((bt (below_one w _) (bt (below_one _ _) (below_one _ _))).trans (b1.mono (by simp; omega)))
    clear b1
    go_wp2_with fail
    refine (attr1 e ⟨⟨#[111, 110]⟩, v⟩ he' (show (2 : Nat) ≤ 140737488355328 by omega) hv' w1 k HK.out).mono ?_
    rintro r w2 ⟨rfl, b2⟩
    have B2 := Lib.hid (bt B1.out b2)
    clear b2
    cases k
    all_goals
      go_wp2_with fail
      refine (element1 e w2 q HQ.out).mono ?_
      rintro r w3 ⟨rfl, rfl⟩
      cases q with
      | false =>
        go_wp2_with fail
        refine (fixed10_any w2).mono ?_
        rintro r w3 ⟨rfl, b3⟩
        go_wp2
        go_ret
        exact ⟨rfl, bt B2.out b3⟩
      | true =>
        go_wp2_with fail
        refine (safe_name w2 e he' _ rfl HQ.out).mono ?_
        rintro r w3 ⟨rfl, b3⟩
        go_wp2_with fail
        refine (fixed10_any w3).mono ?_
        rintro r w4 ⟨rfl, b4⟩
        go_wp2
        go_ret
        exact ⟨rfl, bt B2.out (bt b3 b4)⟩
  · obtain ⟨t, ht⟩ : ∃ t, (⟨#[111, 110]⟩ : ByteArray) ++ a = t := ⟨_, rfl⟩
    have hts : t.size ≤ 140737488355328 := by
      have : (⟨#[111, 110]⟩ : ByteArray).size = 2 := rfl
      rw [← ht, size_append]; omega
    have hp : ¬ 9223372036854775807 < 2 + a.size := by omega
    have hne : (L a).isEmpty = false := by
      cases hL : L a with
      | nil => exact absurd (L_inj (by rw [hL])) h0
      | cons x r => rfl
    have hh : hand (L t) = true := by
      rw [← ht, L_append]
      show hand (111 :: 110 :: L a) = true
      rw [hand_on, hne]
      rfl
    have hemp : a.toList.isEmpty = false := by rw [toList_L]; exact hne
    have HT := Lib.hid ht; have HH := Lib.hid hh
    clear ht hne hh h0
    go_enter Try.func6, Try.ntmps6
    go_wp2_with fail
    simp only [HT.out]
    refine (attr1 e ⟨t, v⟩ he' hts hv' _ true (attr_hand e ⟨t, v⟩ HH.out)).mono ?_
    rintro r w1 ⟨rfl, b1⟩
    have B1 := Lib.hid ((bt (below_one w _) (bt (below_one _ _) (below_one _ _))).trans (b1.mono (by simp; omega)))
    have hW2 : ((w.alloc (.cells #[.string t, .string v] 30)).alloc (.cells #[.string t, .string v] 30)).heap.size = w.heap.size + 1 + 1 := by simp
    have hbox := fun j => Ro.box_kept (w := (w.alloc (.cells #[.string t, .string v] 30)).alloc (.cells #[.string t, .string v] 30)) (x := oneA e t v (w.heap.size + 1)) b1 j
    rw [hW2] at hbox
    have c0 := hbox 0
    have c1 := hbox 1
    have c2 := hbox 2
    have c3 := hbox 3
    have c4 := hbox 4
    simp only [cells, oneA, List.getElem?_cons_zero, List.getElem?_cons_succ, List.length_cons, List.length_nil] at c0 c1 c2 c3 c4
    have hblk : w1.heap[w.heap.size + 1]? = some (.cells #[.string t, .string v] 30) := by
      rw [b1.block _ (by simp), (below_one _ _).block _ (by simp)]
      have := heap_alloc_new (w.alloc (.cells #[.string t, .string v] 30)) (.cells #[.string t, .string v] 30)
      rw [World.size_alloc] at this
      exact this
    have HBLK := Lib.hid hblk
    clear b1 hW2 hbox hblk
    go_wp2_with fail
    refine (safe_hand w1 e t v (w.heap.size + 1) he' hts hv' _ HBLK.out rfl HH.out).mono ?_
    rintro r w2 ⟨rfl, b2⟩
    have B2 := Lib.hid (bt B1.out b2)
    clear b2 c0 c1 c2 c3 c4
    go_wp2_with fail
    refine (element1 e w2 q HQ.out).mono ?_
    rintro r w3 ⟨rfl, rfl⟩
    cases q with
    | false =>
      go_wp2_with fail
      refine (fixed10_any w2).mono ?_
      rintro r w3 ⟨rfl, b3⟩
      go_wp2
      go_ret
      exact ⟨rfl, bt B2.out b3⟩
    | true =>
      go_wp2_with fail
      refine (safe_name w2 e he' _ rfl HQ.out).mono ?_
      rintro r w3 ⟨rfl, b3⟩
      go_wp2_with fail
      refine (fixed10_any w3).mono ?_
      rintro r w4 ⟨rfl, b4⟩
      go_wp2
      go_ret
      exact ⟨rfl, bt B2.out (bt b3 b4)⟩
end Go.Proofs.Ytkogkildipmnpaa.Rk

namespace Go.Proofs.Ytkogkildipmnpaa.Rk
set_option maxRecDepth 100000
set_option linter.unusedVariables false
set_option linter.unusedSimpArgs false
open Go.RowKit Ba Ro
/-- No more than 40 rows, of no more than 8 attributes. -/
def boundR (l : List Ro) : List Ro := (l.take 40).map fun x => { x with attrs := x.attrs.take 8 }
theorem AttR.cut {w : World} {N : Nat} {x : Cw} (h : Att w N x) : Att w N (cut x (x.ro.attrs.take 8)) :=
  ⟨Nat.le_trans (List.length_take_le' _ _) h.1, h.2.1, h.2.2.1, h.2.2.2.1.take 8, fun a ha => h.2.2.2.2 a (List.mem_of_mem_take ha)⟩
theorem boundR_at {l : List Cw} {k : Nat} {x : Cw} (h : l[k]? = some x) (hk : k < 40) : (boundR (ros l)).take (k + 1) = (boundR (ros l)).take k ++ [{ x.ro with attrs := x.ro.attrs.take 8 }] := by
  rw [List.take_add_one]
  congr 1
  rw [boundR, List.getElem?_map, List.getElem?_take_of_lt hk, ros, List.getElem?_map, h]
  rfl
theorem len_boundR (l : List Cw) : (boundR (ros l)).length = min 40 l.length := by rw [boundR, List.length_map, List.length_take, len_ros]
set_option maxRecDepth 100000 in
set_option maxHeartbeats 1000000 in
theorem boundR_any (A : Option Addr) (c : Nat) (l : List Cw) (w : World) (hr : Rr w w.heap.size A l) (hc : l.length ≤ c) (hm : c ≤ maxLen) :
    Calls Try.prog 21 #[.slice A l.length c] w fun e w' => ∃ v l', e = .returned v ∧ Ow w.heap.size w' v l' ∧ (∀ x ∈ l', Att w' w.heap.size x) ∧ ros l' = boundR (ros l) ∧ Below w.heap.size w w' := by
  unfold maxLen at hm
  go_enter Try.func21, Try.ntmps21
  go_wp2
  go_loopw [3, 4] (fun v i wr => ∃ (k : Nat) (acc : List Cw), i = .int .i64 k ∧ k ≤ l.length ∧ k ≤ 40 ∧ acc.length = k ∧ Ow w.heap.size wr v acc ∧ (∀ x ∈ acc, Att wr w.heap.size x) ∧ ros acc = (boundR (ros l)).take k ∧ Below w.heap.size w wr) (fun _ i _ => l.length - (intOf i).toNat)
  case atStart => exact ⟨0, [], rfl, by omega, by omega, rfl, Ow.made w, fun _ h => by simp at h, rfl, below_new w _⟩
  case round =>
    obtain ⟨k, acc, rfl, hk, hk6, hal, hown, hatt, hros, hbel⟩ := hrel
    have hsz := hbel.size
    by_cases hp : k < l.length
    · by_cases hp6 : k < 40
      · obtain ⟨b, off, x, rfl, hb, hdx, hx, hxa, hxm⟩ := (hr.below hbel).at_ k hp
        have hs : ros acc ++ [{ x.ro with attrs := x.ro.attrs.take 8 }] = (boundR (ros l)).take (k + 1) := by rw [hros, boundR_at (getElem_of_drop hdx) hp6]
        have hca := AttR.cut hxa
        obtain ⟨ys, hys⟩ : ∃ ys, x.ro.attrs.take 8 = ys := ⟨_, rfl⟩
        have hyl : ys.length = min x.ro.attrs.length 8 := by rw [← hys, List.length_take, Nat.min_comm]
        rw [hys] at hs hca
        have hmin := fun w => min_any x.ro.attrs.length 8 8 rfl ys.length hyl w
        have hyc : ys.length ≤ x.c := hca.1
        have hxc := hxa.1
        have hxm2 := hxa.2.2.1
        unfold maxLen at hxm2
        have HS := Lib.hid hs; have HOW := Lib.hid hown; have HATT := Lib.hid hatt; have HAL := Lib.hid hal; have HCA := Lib.hid hca
        have HC1 : Hid (Att wr wr.heap.size (cut x ys)) := Lib.hid (hca.more hsz)
        have HC2 : Hid (Ap wr w.heap.size (cut x ys)) := Lib.hid hca.apart
        have HC3 : Hid (Att (wr.alloc (rowO (cut x ys))) (wr.alloc (rowO (cut x ys))).heap.size (cut x ys)) := Lib.hid (HC1.out.boxed (Below.refl _ _) _)
        have hacc : acc.length ≤ 2000000 := by omega
        clear hros hdx hs hown hatt hxa hal hca hys hyl
        go_wp2_with (first
          | (refine wpList_load_mid rfl 37 (.tmp 19) rfl b (off + k * 5) rfl _ _ hx Try.underlying37 rfl size_row ?_)
          | (at_builtin; refine app_row _ rfl (.tmp 29) (.tmp 31) rfl w.heap.size _ acc (cut x ys) rfl (HOW.out.alloc _) HC3.out (HC2.out.below (below_new _ _)) (wr.heap.size + 1) (by simp) rfl hacc (by simp; omega) ?_; intro v3 w3 ho3 hk3 hf3))
        go_roundw
        case rel =>
          have hb3 := hk3 w (hbel.alloc hsz _)
          refine ⟨k + 1, acc ++ [cut x ys], by go_num, by omega, by omega, by rw [List.length_append, HAL.out]; rfl, ho3, fun z hz => ?_, by rw [ros_append]; exact HS.out, hb3⟩
          have hbw : Below w.heap.size wr w3 := hk3 wr (below_new wr _ |>.mono hsz)
          rcases List.mem_append.1 hz with h | h
          · exact (HATT.out z h).below hbw
          · obtain rfl := List.mem_singleton.1 h
            exact HCA.out.below hbw
        case measure => simp [intOf]; omega
      · obtain rfl : k = 40 := by omega
        have hrs : ros acc = boundR (ros l) := by rw [hros, List.take_of_length_le]; rw [len_boundR]; omega
        have HR := Lib.hid hrs
        clear hros hrs
        go_wp2
        go_ret
        exact ⟨_, acc, rfl, hown, hatt, HR.out, hbel⟩
    · have hrs : ros acc = boundR (ros l) := by rw [hros, List.take_of_length_le]; rw [len_boundR]; omega
      have HR := Lib.hid hrs
      clear hros hrs
      go_wp2
      go_ret
      exact ⟨_, acc, rfl, hown, hatt, HR.out, hbel⟩

/-- What is bounded is no greater. -/
theorem small_bound {l : List Ro} (h : Rz.Small l) : Rz.Small (boundR l) := fun x hx => by
  obtain ⟨y, hy, rfl⟩ := List.mem_map.1 hx
  obtain ⟨h1, h2, h3⟩ := h y (List.mem_of_mem_take hy)
  exact ⟨h1, h2, fun a ha => h3 a (List.mem_of_mem_take ha)⟩
theorem held_bound {l : List Ro} (h : Held l) : Held (boundR l) := fun x hx => by
  obtain ⟨y, hy, rfl⟩ := List.mem_map.1 hx
  exact h y (List.mem_of_mem_take hy)
theorem len_bound40 (l : List Ro) : (boundR l).length ≤ 40 := by
  unfold boundR
  rw [List.length_map, List.length_take]
  omega
theorem attrs_bound8 {l : List Ro} : ∀ x ∈ boundR l, x.attrs.length ≤ 8 := fun x hx => by
  obtain ⟨y, hy, rfl⟩ := List.mem_map.1 hx
  show (y.attrs.take 8).length ≤ 8
  rw [List.length_take]
  omega
/-- The law's bound, over a value that reads as rows. -/
theorem bound1 (v : Value) (l : List Cw) (w : World) (hv : Rv w v l) (hs : Rz.Small (ros l)) :
    Calls Try.prog 21 #[v] w fun e w' => ∃ v' l', e = .returned v' ∧ Ow w.heap.size w' v' l' ∧ (∀ x ∈ l', Att w' w.heap.size x) ∧ l'.length ≤ 40 ∧ (∀ x ∈ l', x.ro.attrs.length ≤ 8) ∧ Rz.Small (ros l') ∧ Held (ros l') ∧ Below w.heap.size w w' := by
  obtain ⟨A, c, rfl, hlc, hcm, hr, hh⟩ := hv
  refine (boundR_any A c l w hr hlc hcm).mono ?_
  rintro e w' ⟨v', l', he, ho, ha, hl, hb⟩
  refine ⟨v', l', he, ho, ha, ?_, fun x hx => ?_, by rw [hl]; exact small_bound hs, by rw [hl]; exact held_bound hh, hb⟩
  · rw [← len_ros, hl]
    exact len_bound40 _
  · exact attrs_bound8 x.ro (by rw [← hl]; exact List.mem_map_of_mem hx)
end Go.Proofs.Ytkogkildipmnpaa.Rk

namespace Go.Proofs.Ytkogkildipmnpaa.Sm
set_option maxRecDepth 100000
set_option linter.unusedSimpArgs false
set_option linter.unusedVariables false
open Go.RowKit Ba
theorem min_any (x : Nat) (m : Nat) (M : Int) (hM : M = m) (w : World) : ∃ k : Nat, k ≤ x ∧ k ≤ m ∧ k = min x m ∧ ∀ ts t, (Builtin.min_ ts t #[.int .i64 x, .int .i64 M]).run Try.prog w = .ok (.int .i64 k) w := by
  refine ⟨min x m, by omega, by omega, rfl, fun ts t => ?_⟩
  rw [run_min_int2]
  congr 2
  split <;> omega
theorem and_small (n : Int) (m j : Nat) (hm : m < 2 ^ j) (hj : 2 ^ j ≤ 4611686018427387904) : ∃ x : Nat, x < 2 ^ j ∧ bits .and .i64 n (m : Int) = (x : Int) := by
  have hlt : (BitVec.ofInt IntKind.i64.bits n).toNat &&& m < 2 ^ j := Nat.and_lt_two_pow _ hm
  refine ⟨_, hlt, ?_⟩
  have hm' : m % 2 ^ IntKind.i64.bits = m := Nat.mod_eq_of_lt (Nat.lt_of_lt_of_le hm (Nat.le_trans hj (by decide)))
  simp only [bits, BitVec.ofInt_natCast, BitVec.toNat_and, BitVec.toNat_ofNat, hm']
  rw [IntKind.wrap_i64]
  omega
end Go.Proofs.Ytkogkildipmnpaa.Sm
