/-
  Walks of stage 2, for later stages: fold.lowerByte, Letter, Lower, Same, Trim, boltingref02.Letter, Lower, Trim.
  Walks of stage 3: refs.Code, boltingref03's Char and Code, the digits, has, end, bodyOf, kindOf.
  Walks of stage 3: the digits, has, end, bodyOf, kindOf.
  Walks of stage 3: the value of digits (boltingref03.value, refs.numbered).
  Walks of stage 3: the names (refs.Named over the package's table, boltingref03.Named).
  Walks of stage 3: what a reference's body stands for (refs.denoted, boltingref03.meant), the start of a text (refs.first), a text decoded (refs.Decode, boltingref03.Decode).
  Walks of stage 3: the start of a text (refs.first), a text decoded (refs.Decode, boltingref03.Decode).
  Walks of stage 3: a text decoded (refs.Decode, boltingref03.Decode).
  Walks of stage 6: the reader in memory; pass, skipSpaces. Walks of stage 6: what ends a name or a value, starts, upTo, quoted, value. Walks of stage 6: quoted, value, attr of the reader. Walks of stage 6: attr of the reader.
  Attributes of the call's own; append of one.
-/
import Derived.Test.YtgjlfcamgkeibaaGreatDoorCk01
import Derived.Test.YtgjlfcamgkeibaaGreatDoorCk03
import Derived.Lib.ConvBytes
import Derived.Test.YtgjlfcamgkeibaaGreatDoorCk02
import Derived.BigQuiet
import Derived.Deep.QuietTactic
import Derived.Deep.MidRow
import Derived.StillTailTactics
import Derived.Deep.CutRange
import Derived.Deep.RegionHeld3
import Derived.OwnWalk
namespace Go.Proofs.YtgjlfcamgkeibaaGreatDoor.Fo
set_option maxRecDepth 100000
set_option linter.unusedSimpArgs false
set_option linter.unusedVariables false
open Go.RowKit Ba Fm

theorem lowerByte_any (c : UInt8) (w : World) :
    Calls Tryz.prog 242 #[.int .u8 c.toNat] w fun e w' => e = .returned (.int .u8 (low c).toNat) ∧ w = w' := by
  have hc := c.toNat_lt
  by_cases h1 : 65 ≤ c.toNat
  · by_cases h2 : c.toNat ≤ 90
    · have hl : ((low c).toNat : Int) = c.toNat + 32 := by
        unfold low
        rw [if_pos ⟨UInt8.le_iff_toNat_le.2 h1, UInt8.le_iff_toNat_le.2 h2⟩, UInt8.toNat_add]
        simp
        omega
      have HL := Lib.hid hl; clear hl
      go_enter Tryz.func242, Tryz.ntmps242
      go_wp2
      go_ret
      exact ⟨ret_int (by rw [HL.out]; omega), rfl⟩
    · have hl : low c = c := by
        unfold low
        rw [if_neg]
        rintro ⟨_, h⟩
        exact h2 (UInt8.le_iff_toNat_le.1 h)
      have HL := Lib.hid hl; clear hl
      go_enter Tryz.func242, Tryz.ntmps242
      go_wp2
      go_ret
      exact ⟨ret_int (by rw [HL.out]), rfl⟩
  · have hl : low c = c := by
      unfold low
      rw [if_neg]
      rintro ⟨h, _⟩
      exact h1 (UInt8.le_iff_toNat_le.1 h)
    have HL := Lib.hid hl; clear hl
    go_enter Tryz.func242, Tryz.ntmps242
    go_wp2
    go_ret
    exact ⟨ret_int (by rw [HL.out]), rfl⟩

theorem letter_any (c : UInt8) (w : World) :
    Calls Tryz.prog 213 #[.int .u8 c.toNat] w fun e w' => e = .returned (.bool (lr c)) ∧ w = w' := by
  have hc := c.toNat_lt
  have hl := (low c).toNat_lt
  have hv : lr c = (decide ((97 : Int) ≤ (low c).toNat) && decide (((low c).toNat : Int) ≤ 122)) := by
    have hlow : ((low c).toNat : Int) = if 65 ≤ c.toNat ∧ c.toNat ≤ 90 then c.toNat + 32 else c.toNat := by
      unfold low
      have e1 : (65 ≤ c ∧ c ≤ 90) ↔ (65 ≤ c.toNat ∧ c.toNat ≤ 90) := by rw [UInt8.le_iff_toNat_le, UInt8.le_iff_toNat_le]; exact Iff.rfl
      by_cases h : 65 ≤ c.toNat ∧ c.toNat ≤ 90
      · rw [if_pos (e1.2 h), if_pos h, UInt8.toNat_add]; simp; omega
      · rw [if_neg (fun q => h (e1.1 q)), if_neg h]
    unfold lr
    rw [hlow, Bool.eq_iff_iff]
    simp only [Bool.or_eq_true, Bool.and_eq_true, decide_eq_true_eq, UInt8.le_iff_toNat_le]
    have e65 : (65 : UInt8).toNat = 65 := rfl
    have e90 : (90 : UInt8).toNat = 90 := rfl
    have e97 : (97 : UInt8).toNat = 97 := rfl
    have e122 : (122 : UInt8).toNat = 122 := rfl
    rw [e65, e90, e97, e122]
    split <;> omega
  have HV := Lib.hid hv; clear hv hc
  by_cases h1 : (97 : Int) ≤ (low c).toNat
  · by_cases h2 : ((low c).toNat : Int) ≤ 122
    · go_enter Tryz.func213, Tryz.ntmps213
      go_wp2_with (go_at_call 242; refine (lowerByte_any c _).mono ?_; rintro e w' ⟨rfl, rfl⟩)
      go_ret
      exact ⟨ret_bool (by rw [HV.out]; simp [h1, h2]), rfl⟩
    · go_enter Tryz.func213, Tryz.ntmps213
      go_wp2_with (go_at_call 242; refine (lowerByte_any c _).mono ?_; rintro e w' ⟨rfl, rfl⟩)
      go_ret
      exact ⟨ret_bool (by rw [HV.out]; simp [h1, h2]), rfl⟩
  · go_enter Tryz.func213, Tryz.ntmps213
    go_wp2_with (go_at_call 242; refine (lowerByte_any c _).mono ?_; rintro e w' ⟨rfl, rfl⟩)
    go_ret
    exact ⟨ret_bool (by rw [HV.out, decide_eq_false (by omega)]; rfl), rfl⟩

set_option maxHeartbeats 1000000 in
theorem lower_any (s : ByteArray) (w : World) (hs : s.size ≤ 140737488355328) :
    Calls Tryz.prog 216 #[.string s] w fun e w' => e = .returned (.string (B (lowL (L s)))) ∧ Below w.heap.size w w' := by
  obtain ⟨i0, hi, hz0, hz1, hz2⟩ := info_parts info_u8
  go_enter Tryz.func216, Tryz.ntmps216
  go_wp2_with (at_make; refine wpList_make_own _ rfl (.const (.int .i64 0)) (.tmp 6) 88 rfl w.heap.size 5 i0 (.int .u8 0) 1 Tryz.underlying88 hi hz0 hz1 .i64 .i64 _ s.size rfl rfl rfl (by rw [hz2]; omega) (by unfold maxLen; omega) (Nat.le_refl _) ?_; intro w1 hown hgrow)
  have hb0 : Below w.heap.size w w1 := (Below.refl w.heap.size w).grown hgrow (Nat.le_refl _) (by simp)
  have ho0 : OwnB w.heap.size w1 (.slice (some ⟨w.heap.size, 0, none⟩) 0 s.size) [] := hown
  clear hown hgrow
  go_loopw [3, 10] (fun v i wr => ∃ (k : Nat), i = .int .i64 k ∧ k ≤ s.size ∧ OwnB w.heap.size wr v (lowL ((L s).take k)) ∧ Below w.heap.size w wr) (fun _ i _ => s.size - (intOf i).toNat)
  case atStart => exact ⟨0, rfl, Nat.zero_le _, ho0, hb0⟩
  case round =>
    clear ho0 hb0
    obtain ⟨k, rfl, hks, hown, hbel⟩ := hrel
    have hN := hbel.size
    by_cases hp : k < s.size
    · have hlen : (lowL ((L s).take k)).length + 1 ≤ 140737488355328 := by rw [len_lowL, List.length_take, size_L]; omega
      go_wp2_with (first | (go_at_call 242; refine (lowerByte_any s[k] _).mono ?_; rintro e w' ⟨rfl, rfl⟩) | (at_builtin; refine app_byte wr rfl (.tmp 13) (.tmp 18) rfl w.heap.size _ (lowL ((L s).take k)) (low s[k]) rfl hown rfl hlen hN ?_; intro v2 w2 hown2 hk2))
      go_roundw
      case rel =>
        refine ⟨k + 1, by go_num, by omega, ?_, hk2 _ hbel⟩
        rw [take_snoc s k hp, lowL_append]
        exact hown2
      case measure => simp [intOf]; omega
    · have hcv := hown.string
      go_wp2
      go_ret
      refine ⟨ret_str ?_, hbel⟩
      rw [List.take_of_length_le (by rw [size_L]; omega)]

theorem same_any (a b : ByteArray) (w : World) (ha : a.size ≤ 140737488355328) (hb : b.size ≤ 140737488355328) :
    Calls Tryz.prog 238 #[.string a, .string b] w fun e w' => e = .returned (.bool (decide (lowL (L a) = lowL (L b)))) ∧ Below w.heap.size w w' := by
  go_enter Tryz.func238, Tryz.ntmps238
  go_wp2_with fail
  refine (lower_any a _ ha).mono ?_
  rintro e w1 ⟨rfl, hb1⟩
  go_wp2_with fail
  refine (lower_any b _ hb).mono ?_
  rintro e w2 ⟨rfl, hb2⟩
  go_wp2
  go_ret
  refine ⟨ret_bool ?_, bt hb1 hb2⟩
  rw [eq_of_toList]
  exact decide_eq_decide.2 ⟨B_inj, fun h => by rw [h]⟩

theorem trim_cut (s : ByteArray) (k m : Nat) (hkm : k < m) (hm : m ≤ s.size) : ((L s).drop k).take (m - k) = ((L s).drop k).take (m - 1 - k) ++ [s[m - 1]'(by omega)] := by
  have e : m - k = (m - 1 - k) + 1 := by omega
  rw [e, List.take_succ_eq_append_getElem (by rw [List.length_drop, size_L]; omega)]
  congr 2
  rw [List.getElem_drop]
  have : k + (m - 1 - k) = m - 1 := by omega
  simp only [this]
  rfl

set_option maxHeartbeats 1000000 in
theorem trim_any (s : ByteArray) (w : World) (hs : s.size ≤ 140737488355328) :
    Calls Tryz.prog 179 #[.string s] w fun e w' => e = .returned (.string (B (trimL (L s)))) ∧ w = w' := by
  go_enter Tryz.func179, Tryz.ntmps179
  go_wp2
  go_loop [3] (fun i => ∃ k : Nat, i = .int .i64 k ∧ k ≤ s.size ∧ trimS ((L s).drop k) = trimS (L s)) (fun i => s.size - (intOf i).toNat)
  case atStart => exact ⟨0, rfl, Nat.zero_le _, by simp⟩
  case round =>
    obtain ⟨k, rfl, hks, hc⟩ := hrel
    by_cases hp : k < s.size
    · rw [drop_cons s k hp] at hc
      cases hsp : sp s[k] with
      | true =>
        rw [trimS_sp _ hsp] at hc
        have HC := Lib.hid hc; have HS := Lib.hid hsp; clear hc hsp
        go_wp2_with (go_at_call 220; refine (space_any s[k] _).mono ?_; rw [HS.out]; rintro e w' ⟨rfl, rfl⟩)
        go_round
        case rel => exact ⟨k + 1, by go_num, by omega, HC.out⟩
        case measure => simp [intOf]; omega
      | false =>
        rw [trimS_no _ hsp, ← drop_cons s k hp] at hc
        have HC := Lib.hid hc; have HS := Lib.hid hsp; clear hc hsp
        go_wp2_with (go_at_call 220; refine (space_any s[k] _).mono ?_; rw [HS.out]; rintro e w' ⟨rfl, rfl⟩)
        go_loop [4] (fun i => ∃ m : Nat, i = .int .i64 m ∧ k ≤ m ∧ m ≤ s.size ∧ trimE (((L s).drop k).take (m - k)) = trimE ((L s).drop k)) (fun i => (intOf i).toNat)
        case atStart => exact ⟨s.size, rfl, hks, Nat.le_refl _, by rw [List.take_of_length_le (by rw [List.length_drop, size_L]; omega)]⟩
        case round =>
          obtain ⟨m, rfl, hkm, hms, hd⟩ := hrel
          by_cases hq : k < m
          · have hcut := trim_cut s k m hq hms
            cases hsq : sp (s[m - 1]'(by omega)) with
            | true =>
              rw [hcut, trimE_sp _ hsq] at hd
              have HD := Lib.hid hd; have HQ := Lib.hid hsq; clear hd hsq hcut
              have hm1 : 1 ≤ m := by omega
              obtain ⟨j, rfl⟩ : ∃ j, m = j + 1 := ⟨m - 1, by omega⟩
              go_wp2_with (go_at_call 220; refine (space_any (s[j]'(by omega)) _).mono ?_; rw [show sp (s[j]'(by omega)) = true from HQ.out]; rintro e w' ⟨rfl, rfl⟩)
              go_round
              case rel => exact ⟨j, by go_num, by omega, by omega, HD.out⟩
              case measure => simp [intOf]
            | false =>
              rw [hcut, trimE_no _ hsq, ← hcut] at hd
              have HD := Lib.hid hd; have HQ := Lib.hid hsq; clear hd hsq hcut
              obtain ⟨j, rfl⟩ : ∃ j, m = j + 1 := ⟨m - 1, by omega⟩
              go_wp2_with (go_at_call 220; refine (space_any (s[j]'(by omega)) _).mono ?_; rw [show sp (s[j]'(by omega)) = false from HQ.out]; rintro e w' ⟨rfl, rfl⟩)
              go_ret
              refine ⟨ret_str (B_of ?_), rfl⟩
              rw [L_extract, HD.out, trimL, ← HC.out]
          · have HD := Lib.hid hd; clear hd
            go_wp2
            go_ret
            refine ⟨ret_str (B_of ?_), rfl⟩
            have h1 := HD.out
            obtain rfl : m = k := by omega
            rw [Nat.sub_self, List.take_zero] at h1
            rw [L_extract, Nat.sub_self, List.take_zero, trimL, ← HC.out, ← h1, trimE_nil]
    · have HC := Lib.hid hc; clear hc
      go_wp2
      go_loop [4] (fun i => i = .int .i64 s.size) (fun _ => 0)
      case atStart => exact rfl
      case round =>
        subst hrel
        go_wp2
        go_ret
        refine ⟨ret_str (B_of ?_), rfl⟩
        have h1 := HC.out
        rw [drop_nil s k hp] at h1
        rw [L_extract, drop_nil s k hp, trimL, ← h1]
        simp [trimS_nil, trimE_nil]

def Raw (w : World) (g : Nat) (l : List UInt8) : Prop := ∃ cs : Array Value, w.heap[g]? = some (.cells cs 5 (cs.size, cs.size + 1)) ∧ l.length ≤ cs.size ∧ ∀ j (h : j < l.length), cs[j]? = some (bc l[j])

theorem Raw.cell {w : World} {g : Nat} {l : List UInt8} (h : Raw w g l) (j : Nat) (hj : j < l.length) : w.cell? ⟨g, j, none⟩ = some (.int .u8 (l[j].toNat : Int)) := by
  obtain ⟨cs, hg, _, hc⟩ := h
  rw [cell_of_row w g j cs _ _ hg, hc j hj]
  rfl
theorem Raw.frozen {w : World} {g : Nat} {l : List UInt8} (h : Raw w g l) (j : Nat) (hj : j < l.length) : w.frozen? ⟨g, j, none⟩ = false := by
  obtain ⟨cs, hg, hl, _⟩ := h
  simp [World.frozen?, hg]
  omega
theorem Raw.set {w : World} {g : Nat} {l : List UInt8} (h : Raw w g l) (j : Nat) (y : UInt8) : Raw (w.setCell ⟨g, j, none⟩ (.int .u8 (y.toNat : Int))) g (l.set j y) := by
  obtain ⟨cs, hg, hl, hc⟩ := h
  refine ⟨cs.setIfInBounds j (.int .u8 (y.toNat : Int)), ?_, by simpa using hl, fun i hi => ?_⟩
  · simp [World.setCell, Array.getElem?_modify, hg]
  · rw [List.length_set] at hi
    rw [Array.getElem?_setIfInBounds, List.getElem_set]
    by_cases hij : j = i
    · subst hij
      simp [bc]
      omega
    · simp [hij, hc i hi]
theorem Raw.string {w : World} {g c : Nat} {l : List UInt8} (h : Raw w g l) : (convert 88 9 (.slice (some ⟨g, 0, none⟩) l.length c)).run Tryz.prog w = .ok (.string (B l)) w :=
  run_convert_bytes_back w _ _ _ ⟨g, 0, none⟩ c l Tryz.underlying88 Tryz.underlying5 Tryz.underlying9 fun j hj => by
    rw [WideShapes.add_plain, Nat.zero_add]
    exact h.cell j hj
theorem Raw.new (w : World) (s : ByteArray) : Raw (Lib.bytesWorld w 5 s) w.heap.size (L s) := by
  refine ⟨_, Lib.bytesWorld_at_new w _ s, ?_, fun j hj => ?_⟩
  · unfold Lib.bytesCells
    rw [size_L]
    simp
  · rw [size_L] at hj
    simp [Lib.bytesCells, Array.getElem?_append, hj, bc]
end Go.Proofs.YtgjlfcamgkeibaaGreatDoor.Fo

namespace Go.Proofs.YtgjlfcamgkeibaaGreatDoor.Re
set_option maxRecDepth 100000
set_option linter.unusedSimpArgs false
set_option linter.unusedVariables false
open Go.RowKit Ba Rm
theorem valid_of (m : Nat) (h : m < 1114112) (hs : ¬ (55296 ≤ m ∧ m ≤ 57343)) : Utf8.valid (m : Int) = true := by
  unfold Utf8.valid
  simp only [Bool.or_eq_true, Bool.and_eq_true, decide_eq_true_eq]
  omega
theorem enc_eq (m : Nat) (h : m < 1114112) (hs : ¬ (55296 ≤ m ∧ m ≤ 57343)) : Utf8.encode (m : Int) = B (enc m) := by
  have hv := valid_of m h hs
  unfold Utf8.encode enc
  rw [hv]
  simp only [if_true, Int.toNat_natCast]
  clear hv h hs
  by_cases h0 : m < 128
  · rw [if_pos h0, if_pos h0]; rfl
  by_cases h1 : m < 2048
  · rw [if_neg h0, if_pos h1, if_neg h0, if_pos h1]; rfl
  by_cases h2 : m < 65536
  · rw [if_neg h0, if_neg h1, if_pos h2, if_neg h0, if_neg h1, if_pos h2]; rfl
  · rw [if_neg h0, if_neg h1, if_neg h2, if_neg h0, if_neg h1, if_neg h2]; rfl

theorem code_any (n : Int) (w : World) (hn : (Lit.int .i64 n).wf = true) : Calls Tryz.prog 254 #[.int .i64 n] w fun e w' => e = .returned (.string (B (code n))) ∧ w = w' := by
  by_cases hb : n < 1 ∨ 1114111 < n ∨ (55296 ≤ n ∧ n ≤ 57343)
  · have hc : code n = [239, 191, 189] := by
      have : bad n = true := by unfold bad; rcases hb with h | h | ⟨h1, h2⟩ <;> simp [*]
      unfold code
      rw [if_pos this]
    rw [hc]
    rcases hb with h | h | ⟨h1, h2⟩
    all_goals
      go_enter Tryz.func254, Tryz.ntmps254
      go_wp2
      go_ret
      exact ⟨rfl, rfl⟩
  · have hbad : bad n = false := by
      unfold bad
      simp only [Bool.or_eq_false_iff, decide_eq_false_iff_not, Bool.and_eq_false_iff]
      omega
    by_cases h13 : n = 13
    · subst h13
      go_enter Tryz.func254, Tryz.ntmps254
      go_wp2
      go_ret
      exact ⟨rfl, rfl⟩
    · obtain ⟨m, rfl⟩ : ∃ m : Nat, n = m := ⟨n.toNat, by omega⟩
      have hc : code m = enc m := by
        unfold code
        rw [hbad, if_neg (by simp), if_neg h13]
        rfl
      rw [hc, ← enc_eq m (by omega) (by omega)]
      clear hc hbad hn
      have h1 : ¬ (m : Int) < 1 := by omega
      have h2 : ¬ 1114111 < (m : Int) := by omega
      by_cases h3 : 55296 ≤ (m : Int)
      · have h4 : ¬ (m : Int) ≤ 57343 := by omega
        clear hb
        go_enter Tryz.func254, Tryz.ntmps254
        go_wp2
        go_ret
        exact ⟨rfl, rfl⟩
      · clear hb
        go_enter Tryz.func254, Tryz.ntmps254
        go_wp2
        go_ret
        exact ⟨rfl, rfl⟩

end Go.Proofs.YtgjlfcamgkeibaaGreatDoor.Re

namespace Go.Proofs.YtgjlfcamgkeibaaGreatDoor.Re
set_option maxRecDepth 100000
set_option linter.unusedSimpArgs false
set_option linter.unusedVariables false
open Go.RowKit Ba Rm
def digI (x : Int) : Int := if 48 ≤ x ∧ x ≤ 57 then x - 48 else if 97 ≤ x ∧ x ≤ 102 then x - 87 else if 65 ≤ x ∧ x ≤ 70 then x - 55 else -1
theorem dig_eq (c : UInt8) : digI c.toNat = dig c := by
  unfold digI dig
  repeat' split
  all_goals omega
theorem digI_far (x : Int) (h : 128 ≤ x) : digI x = -1 := by
  unfold digI
  repeat' split
  all_goals omega
theorem seven (x : Int) : x < 48 ∨ (48 ≤ x ∧ x ≤ 57) ∨ (57 < x ∧ x < 65) ∨ (65 ≤ x ∧ x ≤ 70) ∨ (70 < x ∧ x < 97) ∨ (97 ≤ x ∧ x ≤ 102) ∨ 102 < x := by omega

set_option maxHeartbeats 1000000 in
theorem digit_any (r : Int) (h0 : 0 ≤ r) (h1 : r ≤ 1114111) (w : World) : Calls Tryz.prog 253 #[.int .i32 r] w fun e w' => e = .returned (.int .i64 (digI r)) ∧ w = w' := by
  rcases seven r with h | ⟨h, h'⟩ | ⟨h, h'⟩ | ⟨h, h'⟩ | ⟨h, h'⟩ | ⟨h, h'⟩ | h
  all_goals
    go_enter Tryz.func253, Tryz.ntmps253
    go_wp2
    go_ret
    refine ⟨ret_int ?_, rfl⟩
    unfold digI
    repeat' split
    all_goals omega

theorem ret_sb {a b : ByteArray} {x y : Bool} (h : a = b) (k : x = y) : Ending.returned (.tuple #[.string a, .bool x]) = .returned (.tuple #[.string b, .bool y]) := by rw [h, k]
theorem u8_ne {a b : UInt8} (h : a ≠ b) : (((a.toNat : Int)) == (b.toNat : Int)) = false := by rw [u8_eq]; simpa using h

theorem bodyOf_any (s : ByteArray) (w : World) (hs : s.size ≤ 140737488355328) : Calls Tryz.prog 211 #[.string s] w fun e w' => e = .returned (.tuple #[.string (B ((bod (L s)).getD [])), .bool (bod (L s)).isSome]) ∧ w = w' := by
  go_enter Tryz.func211, Tryz.ntmps211
  go_wp2
  go_loop [7] (fun i => ∃ k : Nat, i = .int .i64 k ∧ k ≤ s.size ∧ bod (L s) = (bod ((L s).drop k)).map ((L s).take k ++ ·)) (fun i => s.size - (intOf i).toNat)
  case atStart => exact ⟨0, rfl, Nat.zero_le _, by rw [List.drop_zero, List.take_zero]; cases bod (L s) <;> rfl⟩
  case round =>
    obtain ⟨k, rfl, hks, hc⟩ := hrel
    by_cases hp : k < s.size
    · rw [drop_cons s k hp] at hc
      by_cases he : s[k] = 59
      · have hb : (((s[k].toNat : Int)) == 59) = true := by rw [he]; rfl
        rw [bod, if_pos he] at hc
        have HC := Lib.hid hc; clear hc he
        go_wp2
        go_ret2
        refine ⟨ret_sb ?_ ?_, rfl⟩
        · rw [HC.out]
          exact B_of (by rw [L_extract]; simp)
        · rw [HC.out]; rfl
      · have hb : (((s[k].toNat : Int)) == 59) = false := u8_ne (b := 59) he
        by_cases h8 : s[k] = 38
        · have hb8 : (((s[k].toNat : Int)) == 38) = true := by rw [h8]; rfl
          rw [bod, if_neg he, if_pos h8] at hc
          have HC := Lib.hid hc; clear hc he h8
          go_wp2
          go_ret2
          refine ⟨ret_sb ?_ ?_, rfl⟩
          · rw [HC.out]; rfl
          · rw [HC.out]; rfl
        · have hb8 : (((s[k].toNat : Int)) == 38) = false := u8_ne (b := 38) h8
          rw [bod, if_neg he, if_neg h8] at hc
          have HC := Lib.hid hc; clear hc he h8
          go_wp2
          go_round
          case rel =>
            refine ⟨k + 1, by go_num, by omega, ?_⟩
            rw [HC.out, take_snoc s k hp]
            cases bod ((L s).drop (k + 1)) <;> simp
          case measure => simp [intOf]; omega
    · rw [drop_nil s k hp] at hc
      have HC := Lib.hid hc; clear hc
      go_wp2
      go_ret2
      refine ⟨ret_sb ?_ ?_, rfl⟩
      · rw [HC.out]; rfl
      · rw [HC.out]; rfl

def knd (l : List UInt8) : Int := if l.head? = some 35 then (if l[1]? = some 120 ∨ l[1]? = some 88 then 2 else 1) else 0
def rst (l : List UInt8) : List UInt8 := if l.head? = some 35 then (if l[1]? = some 120 ∨ l[1]? = some 88 then l.drop 2 else l.drop 1) else l
theorem L_at (s : ByteArray) (k : Nat) (h : k < s.size) : (L s)[k]? = some s[k] := by
  rw [List.getElem?_eq_getElem (by rw [size_L]; exact h)]; rfl
theorem L_far (s : ByteArray) (k : Nat) (h : ¬ k < s.size) : (L s)[k]? = none := List.getElem?_eq_none (by rw [size_L]; omega)
theorem head_at (s : ByteArray) : (L s).head? = (L s)[0]? := by rw [List.head?_eq_getElem?]
theorem empty_ne {s : ByteArray} (h : 0 < s.size) : (s.toList == (ByteArray.mk #[]).toList) = false := by
  rw [eq_of_toList, decide_eq_false_iff_not]
  intro e
  rw [e] at h
  exact absurd h (by decide)

theorem below_dN {N : Nat} {w0 w : World} (h : Below N w0 w) (n : Nat) : Below N w0 (w.drewN n) := ⟨h.1, h.2, h.3, h.4, h.5⟩
theorem ne_empty {s : ByteArray} (h : 0 < s.size) : ¬ s.toList = [] := fun e => by
  have : s.size = 0 := by rw [← size_L, ← toList_L, e]; rfl
  omega

set_option maxHeartbeats 1000000 in
theorem kindOf_any (s : ByteArray) (w : World) (hs : s.size ≤ 140737488355328) : Calls Tryz.prog 239 #[.string s] w fun e w' => e = .returned (.tuple #[.int .i64 (knd (L s)), .string (B (rst (L s)))]) ∧ Below w.heap.size w w' := by
  by_cases h0 : 0 < s.size
  · have he0 := empty_ne h0
    have hn0 := ne_empty h0
    have hie : s.toList.isEmpty = false := by simpa using hn0
    by_cases h35 : s[0] = 35
    · have hb : (((s[0].toNat : Int)) != 35) = false := by rw [h35]; rfl
      have hh : (L s).head? = some 35 := by rw [head_at, L_at s 0 h0, h35]
      by_cases hx : ∃ h1 : 1 < s.size, s[1] = 120 ∨ s[1] = 88
      · obtain ⟨h1, hx⟩ := hx
        have k1 : knd (L s) = 2 := by
          unfold knd
          rw [if_pos hh, L_at s 1 h1, if_pos (by simpa using hx)]
        have k2 : B (rst (L s)) = s.extract 2 s.size := by
          unfold rst
          rw [if_pos hh, L_at s 1 h1, if_pos (by simpa using hx), ← L_end, B_L]
        rw [k1, k2]
        clear k1 k2 hh h35
        rcases hx with hx | hx
        · have hb1 : (((s[1].toNat : Int)) == 120) = true := by rw [hx]; rfl
          clear hx
          have hz : (2 : Int) ≤ s.size := by omega
          go_enter Tryz.func239, Tryz.ntmps239
          go_wp2
          go_quiet (fail)
          go_wp2
          go_ret2
          exact ⟨rfl, below_dN (Below.refl _ _) _⟩
        · have hb1 : (((s[1].toNat : Int)) == 120) = false := by rw [hx]; rfl
          have hb2 : (((s[1].toNat : Int)) == 88) = true := by rw [hx]; rfl
          clear hx
          have hz : (2 : Int) ≤ s.size := by omega
          go_enter Tryz.func239, Tryz.ntmps239
          go_wp2
          go_quiet (fail)
          go_wp2
          go_ret2
          exact ⟨rfl, below_dN (Below.refl _ _) _⟩
      · have hx' : ¬ ((L s)[1]? = some 120 ∨ (L s)[1]? = some 88) := by
          intro e
          by_cases h1 : 1 < s.size
          · rw [L_at s 1 h1] at e
            exact hx ⟨h1, by simpa using e⟩
          · rw [L_far s 1 h1] at e
            simp at e
        have k1 : knd (L s) = 1 := by
          unfold knd
          rw [if_pos hh, if_neg hx']
        have k2 : B (rst (L s)) = s.extract 1 s.size := by
          unfold rst
          rw [if_pos hh, if_neg hx', ← L_end, B_L]
        rw [k1, k2]
        clear k1 k2 hh h35 hx'
        by_cases h1 : 1 < s.size
        · have hb1 : (((s[1].toNat : Int)) == 120) = false := u8_ne (b := 120) fun e => hx ⟨h1, .inl e⟩
          have hb2 : (((s[1].toNat : Int)) == 88) = false := u8_ne (b := 88) fun e => hx ⟨h1, .inr e⟩
          clear hx
          go_enter Tryz.func239, Tryz.ntmps239
          go_wp2
          go_quiet (fail)
          go_wp2
          go_ret2
          exact ⟨rfl, below_dN (Below.refl _ _) _⟩
        · clear hx
          go_enter Tryz.func239, Tryz.ntmps239
          go_wp2
          go_quiet (fail)
          go_wp2
          go_ret2
          exact ⟨rfl, below_dN (Below.refl _ _) _⟩
    · have hb : (((s[0].toNat : Int)) != 35) = true := by
        have := u8_ne (b := 35) h35
        rw [show (((35 : UInt8).toNat : Int)) = 35 from rfl] at this
        rw [bne, this]; rfl
      have hh : ¬ (L s).head? = some 35 := by rw [head_at, L_at s 0 h0]; simpa using h35
      have k1 : knd (L s) = 0 := by
        unfold knd
        rw [if_neg hh]
      have k2 : B (rst (L s)) = s := by
        unfold rst
        rw [if_neg hh, B_L]
      rw [k1, k2]
      clear k1 k2 hh h35
      go_enter Tryz.func239, Tryz.ntmps239
      go_wp2
      go_ret2
      exact ⟨rfl, Below.refl _ _⟩
  · obtain rfl : s = ByteArray.mk #[] := L_inj (by
      have : (L s).length = 0 := by rw [size_L]; omega
      exact List.eq_nil_of_length_eq_zero this)
    go_enter Tryz.func239, Tryz.ntmps239
    go_wp2
    go_ret2
    exact ⟨rfl, Below.refl _ _⟩

end Go.Proofs.YtgjlfcamgkeibaaGreatDoor.Re

namespace Go.Proofs.YtgjlfcamgkeibaaGreatDoor.Re
set_option maxRecDepth 100000
set_option linter.unusedSimpArgs false
set_option linter.unusedVariables false
open Go.RowKit Ba Rm
theorem min_int (x m : Int) (w : World) : ∀ ts t, (Builtin.min_ ts t #[.int .i64 x, .int .i64 m]).run Tryz.prog w = .ok (.int .i64 (min x m)) w := fun ts t => by
  rw [run_min_int2]
  congr 2
  split <;> omega
theorem prod_bound {n base : Int} (h0 : 0 ≤ n) (h1 : n ≤ 1114112) (hb : base = 10 ∨ base = 16) : 0 ≤ n * base ∧ n * base ≤ 17825792 := by
  rcases hb with rfl | rfl <;> omega
theorem val_stop {base n : Int} {c : UInt8} {r : List UInt8} (h : dig c < 0 ∨ base ≤ dig c) : val base n (c :: r) = none := by rw [val, if_pos h]
theorem val_on {base n : Int} {c : UInt8} {r : List UInt8} (h : ¬ (dig c < 0 ∨ base ≤ dig c)) : val base n (c :: r) = val base (min (n * base + dig c) 1114112) r := by rw [val, if_neg h]

theorem get_at (s : ByteArray) (k : Nat) (h : k < s.size) : s.get! (k + 0) = s[k] := by
  show s.data[k]! = s.data[k]
  exact getElem!_pos s.data k h
theorem dec_small (s : ByteArray) (k : Nat) (h : k < s.size) (hc : s[k].toNat < 128) : Utf8.decode s k = (s[k].toNat, 1) := by
  unfold Utf8.decode
  simp only [get_at s k h, hc, if_true]
theorem dec_big (s : ByteArray) (k : Nat) (h : k < s.size) (hc : ¬ s[k].toNat < 128) : 128 ≤ (Utf8.decode s k).1 ∧ (Utf8.decode s k).1 ≤ 1114111 := by
  unfold Utf8.decode
  simp only [get_at s k h, hc, if_false]
  repeat' split
  all_goals simp only [Utf8.runeError, Utf8.valid, Bool.and_eq_true, Bool.or_eq_true, decide_eq_true_eq, ge_iff_le] at *
  all_goals omega

theorem below_iter (w : World) (s : ByteArray) (p : Nat) : Below w.heap.size w (w.iter s p) := (Below.refl _ _).alloc (Nat.le_refl _) _

set_option maxHeartbeats 1000000 in
theorem numbered_any (s : ByteArray) (base : Int) (hbase : base = 10 ∨ base = 16) (w : World) (hs : s.size ≤ 140737488355328) :
    Calls Tryz.prog 240 #[.string s, .int .i64 base] w fun e w' => e = .returned (.tuple #[.string (B ((numL base (L s)).getD [])), .bool (numL base (L s)).isSome]) ∧ Below w.heap.size w w' := by
  obtain ⟨V, hV⟩ : ∃ V, val base 0 (L s) = V := ⟨_, rfl⟩
  have hN : numL base (L s) = if L s = [] then none else V.map code := by unfold numL; rw [hV]
  have HN := Lib.hid hN; clear hN
  go_enter Tryz.func240, Tryz.ntmps240
  go_wp2
  go_loopw [6] (fun v w' => ∃ (k : Nat) (n : Int), w' = w.iter s k ∧ v = .int .i64 n ∧ k ≤ s.size ∧ 0 ≤ n ∧ n ≤ 1114112 ∧ val base n ((L s).drop k) = V) (fun _ w' => s.size - w'.iterPos w.heap.size)
  case atStart => exact ⟨0, 0, rfl, rfl, Nat.zero_le _, Int.le_refl _, by omega, by rw [List.drop_zero]; exact hV⟩
  case round =>
    clear hV
    obtain ⟨k, n, rfl, rfl, hks, hn0, hn1, hc⟩ := hrel
    by_cases hp : k < s.size
    · have hnx : ∀ ty, (Instr.next (.pointer (some ⟨w.heap.size, 0, none⟩)) true ty).run Tryz.prog (w.iter s k) = _ := fun ty => run_next_any w s k ty hp
      rw [drop_cons s k hp] at hc
      by_cases hsm : s[k].toNat < 128
      · rw [dec_small s k hp hsm] at hnx
        simp only [] at hnx
        have hdl := dig_le s[k]
        have hdq := dig_eq s[k]
        by_cases hd : dig s[k] < 0 ∨ base ≤ dig s[k]
        · rw [val_stop hd] at hc
          subst hc
          rcases hd with hd | hd
          · go_wp2_with (go_at_call 253; refine (digit_any s[k].toNat (by omega) (by omega) _).mono ?_; rw [hdq]; rintro e w' ⟨rfl, rfl⟩)
            go_ret2
            refine ⟨?_, below_iter _ _ _⟩
            rw [HN.out]
            split <;> rfl
          · have hd0 : ¬ dig s[k] < 0 := by omega
            go_wp2_with (go_at_call 253; refine (digit_any s[k].toNat (by omega) (by omega) _).mono ?_; rw [hdq]; rintro e w' ⟨rfl, rfl⟩)
            go_ret2
            refine ⟨?_, below_iter _ _ _⟩
            rw [HN.out]
            split <;> rfl
        · rw [val_on hd] at hc
          have hd0 : ¬ dig s[k] < 0 := by omega
          have hd1 : ¬ base ≤ dig s[k] := by omega
          have hpb := prod_bound hn0 hn1 hbase
          obtain ⟨p1, p2⟩ := hpb
          have hmin := min_int (n * base + dig s[k]) 1114112 (w.iter s (k + 1))
          have HC := Lib.hid hc; clear hc hd
          go_wp2_with (go_at_call 253; refine (digit_any s[k].toNat (by omega) (by omega) _).mono ?_; rw [hdq]; rintro e w' ⟨rfl, rfl⟩)
          go_roundw
          case rel => exact ⟨k + 1, _, rfl, rfl, by omega, by omega, by omega, HC.out⟩
          case measure => simp; omega
      · obtain ⟨hb1, hb2⟩ := dec_big s k hp hsm
        have hdq := digI_far (Utf8.decode s k).1 (by omega)
        have hdg : dig s[k] < 0 := by
          rw [← dig_eq, digI_far _ (by omega)]; decide
        rw [val_stop (.inl hdg)] at hc
        subst hc
        go_wp2_with (go_at_call 253; refine (digit_any (Utf8.decode s k).1 (by omega) (by omega) _).mono ?_; rw [hdq]; rintro e w' ⟨rfl, rfl⟩)
        go_ret2
        refine ⟨?_, below_iter _ _ _⟩
        rw [HN.out]
        split <;> rfl
    · have hnx : ∀ ty, (Instr.next (.pointer (some ⟨w.heap.size, 0, none⟩)) true ty).run Tryz.prog (w.iter s k) = _ := fun ty => run_next_end w s k ty hp
      rw [drop_nil s k hp] at hc
      have hc' : V = some n := hc.symm
      subst hc'
      clear hc
      by_cases h0 : 0 < s.size
      · have hie : s.toList.isEmpty = false := by simpa using ne_empty h0
        have hn2 := ne_empty h0
        have hL : ¬ L s = [] := by rw [← toList_L]; exact hn2
        go_wp2_with (go_at_call 254; refine (code_any n _ (WalkArith.wf_i64 (by omega))).mono ?_; rintro e w' ⟨rfl, rfl⟩)
        go_ret2
        refine ⟨?_, below_iter _ _ _⟩
        rw [HN.out, if_neg hL]
        rfl
      · have hL : L s = [] := List.eq_nil_of_length_eq_zero (by rw [size_L]; omega)
        have hie : s.toList.isEmpty = true := by rw [toList_L, hL]; rfl
        have hn2 : s.toList = [] := by rw [toList_L, hL]
        go_wp2
        go_ret2
        refine ⟨?_, below_iter _ _ _⟩
        rw [HN.out, if_pos hL]
        rfl

end Go.Proofs.YtgjlfcamgkeibaaGreatDoor.Re

namespace Go.Proofs.YtgjlfcamgkeibaaGreatDoor.Re
set_option maxRecDepth 100000
set_option linter.unusedSimpArgs false
set_option linter.unusedVariables false
open Go.RowKit Ba Rm
def cellsOf2 (t : List (List UInt8 × Nat)) : List Value := match t with
  | [] => []
  | p :: r => .string (B p.1) :: .int .i64 p.2 :: cellsOf2 r
theorem cellsOf2_drop (t : List (List UInt8 × Nat)) (k : Nat) : (cellsOf2 t).drop (2 * k) = cellsOf2 (t.drop k) := by
  induction t generalizing k with
  | nil => simp [cellsOf2]
  | cons p r ih =>
    cases k with
    | zero => rfl
    | succ k => rw [show 2 * (k + 1) = 2 * k + 1 + 1 from by omega, cellsOf2, List.drop_succ_cons, List.drop_succ_cons, ih, List.drop_succ_cons]
def Tab (w : World) : Prop := w.rangeAt 0 0 (cellsOf2 tab) ∧ 0 < w.heap.size
theorem Tab.below {w w' : World} (h : Tab w) (hb : Below w.heap.size w w') : Tab w' := by
  refine ⟨fun j v hv => ?_, Nat.lt_of_lt_of_le h.2 hb.size⟩
  rw [hb.cell (p := ⟨0, 0 + j, none⟩) h.2]
  exact h.1 j v hv

theorem tabT_info : (Tryz.prog.info? 184).map (·.size) = some 48 := by kernel_rfl
theorem pairT_info : (Tryz.prog.info? 183).map (·.size) = some 2 := by kernel_rfl

theorem index_tab (w : World) (k : Nat) (p : List UInt8 × Nat) (r : List (List UInt8 × Nat)) (hk : k < 24) (h : tab.drop k = p :: r) : (Instr.index 184 (.agg (cellsOf2 tab).toArray) (.int .i64 k)).run Tryz.prog w = .ok (.agg #[.string (B p.1), .int .i64 p.2]) w := by
  have hx : ((cellsOf2 tab).drop (k * 2)).take 2 = [.string (B p.1), .int .i64 p.2] := by
    rw [Nat.mul_comm k 2, cellsOf2_drop, h]
    rfl
  have h0 : (0 : Int) ≤ k ∧ (k : Int) < (24 : Nat) := by omega
  cases hq : Tryz.prog.info? 183 with
  | none => have := pairT_info; rw [hq] at this; cases this
  | some i =>
    have hs : i.size = 2 := by have := pairT_info; rw [hq] at this; simpa using this
    simp [Instr.index, run_underlying Tryz.underlying184, run_underlying Tryz.underlying183, asIntOf, part, isAgg, sizeOf, typeInfo, hq, hs, h0, go_sem]
    rw [if_pos hk, hx]

theorem look_stop {p : List UInt8 × Nat} {r : List (List UInt8 × Nat)} {s : List UInt8} (h : p.1 = s) : Rm.look (p :: r) s = some (code p.2) := by rw [Rm.look, if_pos h]
theorem look_on {p : List UInt8 × Nat} {r : List (List UInt8 × Nat)} {s : List UInt8} (h : ¬ p.1 = s) : Rm.look (p :: r) s = Rm.look r s := by rw [Rm.look, if_neg h]
theorem tab_at (k : Nat) (h : k < 24) : ∃ p, p ∈ tab ∧ tab.drop k = p :: tab.drop (k + 1) := by
  have hl : k < tab.length := h
  exact ⟨tab[k], List.getElem_mem _, List.drop_eq_getElem_cons hl⟩
theorem tab_small : ∀ p ∈ tab, p.2 ≤ 8364 ∧ code p.2 = enc p.2 := by decide
theorem str_eqL (a : List UInt8) (s : ByteArray) : ((B a).toList == s.toList) = decide (a = L s) := by
  rw [toList_B, toList_L, Bool.eq_iff_iff, beq_iff_eq, decide_eq_true_iff]

set_option maxRecDepth 100000 in
set_option maxHeartbeats 1000000 in
theorem named_any (s : ByteArray) (w : World) (ht : Tab w) :
    Calls Tryz.prog 241 #[.string s] w fun e w' => e = .returned (.tuple #[.string (B ((Rm.look tab (L s)).getD [])), .bool (Rm.look tab (L s)).isSome]) ∧ Below w.heap.size w w' := by
  obtain ⟨V, hV⟩ : ∃ V, Rm.look tab (L s) = V := ⟨_, rfl⟩
  rw [hV]
  have hrg := ht.1
  have hln : (Tryz.prog.info? 184).map (·.size) = some (cellsOf2 tab).length := tabT_info.trans (by decide)
  have hix := fun (w : World) k p r => index_tab w k p r
  generalize cellsOf2 tab = cs at hrg hix hln
  have HR := Lib.hid hrg; clear hrg
  have HL := Lib.hid hln; clear hln
  have HI := Lib.hid hix; clear hix
  go_enter Tryz.func241, Tryz.ntmps241
  go_wp2_with (refine wpList_load_mid rfl 184 (.global 0) rfl 0 0 rfl cs _ HR.out Tryz.underlying184 rfl HL.out ?_)
  clear HR HL
  go_loopw [7] (fun i wr => ∃ k : Nat, i = .int .i64 k ∧ k ≤ 24 ∧ Rm.look (tab.drop k) (L s) = V ∧ Below w.heap.size w wr) (fun i _ => 24 - (intOf i).toNat)
  case atStart => exact ⟨0, rfl, by omega, hV, Below.refl _ _⟩
  case round =>
    clear hV
    obtain ⟨k, rfl, hk, hc, hbel⟩ := hrel
    by_cases hp : k < 24
    · obtain ⟨p, hpm, hpd⟩ := tab_at k hp
      have hix := HI.out wr k p _ hp hpd
      rw [hpd] at hc
      have hsz := hbel.size
      by_cases he : p.1 = L s
      · rw [look_stop he] at hc
        subst hc
        have hb : ((B p.1).toList == s.toList) = true := by rw [str_eqL]; exact decide_eq_true he
        have hp2 := (tab_small p hpm).1
        have hwf : (Lit.int .i64 (p.2 : Int)).wf = true := WalkArith.wf_i64 (by omega)
        clear he hpd hp2
        go_wp2_with (go_at_call 254; refine (code_any p.2 _ hwf).mono ?_; rintro e w' ⟨rfl, rfl⟩)
        go_ret2
        exact ⟨rfl, hbel.alloc hsz _⟩
      · rw [look_on he] at hc
        have hb : ((B p.1).toList == s.toList) = false := by rw [str_eqL]; exact decide_eq_false he
        have HC := Lib.hid hc
        clear he hpd hc
        go_wp2
        go_roundw
        case rel => exact ⟨k + 1, by go_num, by omega, HC.out, hbel.alloc hsz _⟩
        case measure => simp [intOf]; omega
    · have hc' : V = none := by
        rw [← hc, List.drop_eq_nil_of_le (by show 24 ≤ k; omega)]
        rfl
      subst hc'
      clear hc
      go_wp2
      go_ret2
      exact ⟨rfl, hbel⟩

end Go.Proofs.YtgjlfcamgkeibaaGreatDoor.Re

namespace Go.Proofs.YtgjlfcamgkeibaaGreatDoor.Re
set_option maxRecDepth 100000
set_option linter.unusedSimpArgs false
set_option linter.unusedVariables false
open Go.RowKit Ba Rm
theorem meant_rst (l : List UInt8) : meant l = if knd l = 1 then numL 10 (rst l) else if knd l = 2 then numL 16 (rst l) else Rm.look tab (rst l) := by
  unfold meant knd rst
  repeat' split
  all_goals first | rfl | (exfalso; omega) | simp_all
theorem knd_three (l : List UInt8) : knd l = 1 ∨ knd l = 2 ∨ knd l = 0 := by
  unfold knd
  repeat' split
  all_goals simp
theorem rst_len (l : List UInt8) : (rst l).length ≤ l.length := by
  unfold rst
  repeat' split
  all_goals (try rw [List.length_drop]); omega

set_option maxHeartbeats 1000000 in
theorem denoted_any (s : ByteArray) (w : World) (ht : Tab w) (hs : s.size ≤ 140737488355328) :
    Calls Tryz.prog 212 #[.string s] w fun e w' => e = .returned (.tuple #[.string (B ((meant (L s)).getD [])), .bool (meant (L s)).isSome]) ∧ Below w.heap.size w w' := by
  have hm := meant_rst (L s)
  have hr : (B (rst (L s))).size ≤ 140737488355328 := by
    have := rst_len (L s)
    rw [size_L] at this
    rw [size_B]; omega
  have hk := kindOf_any s w hs
  have h3 := knd_three (L s)
  have hL := L_B (rst (L s))
  generalize meant (L s) = M at hm
  generalize B (rst (L s)) = t at hk hr hL
  rw [← hL] at hm
  generalize knd (L s) = K at hm hk h3
  clear hL
  rcases h3 with rfl | rfl | rfl
  · rw [if_pos rfl] at hm
    subst hm
    go_enter Tryz.func212, Tryz.ntmps212
    go_wp2_with fail
    refine hk.mono ?_
    clear hk
    rintro e w1 ⟨rfl, hb1⟩
    go_wp2_with fail
    refine (numbered_any t 10 (.inl rfl) w1 hr).mono ?_
    rintro e w2 ⟨rfl, hb2⟩
    go_wp2
    go_ret2
    exact ⟨rfl, bt hb1 hb2⟩
  · rw [if_neg (by decide), if_pos rfl] at hm
    subst hm
    go_enter Tryz.func212, Tryz.ntmps212
    go_wp2_with fail
    refine hk.mono ?_
    clear hk
    rintro e w1 ⟨rfl, hb1⟩
    go_wp2_with fail
    refine (numbered_any t 16 (.inr rfl) w1 hr).mono ?_
    rintro e w2 ⟨rfl, hb2⟩
    go_wp2
    go_ret2
    exact ⟨rfl, bt hb1 hb2⟩
  · rw [if_neg (by decide), if_neg (by decide)] at hm
    subst hm
    go_enter Tryz.func212, Tryz.ntmps212
    go_wp2_with fail
    refine hk.mono ?_
    clear hk
    rintro e w1 ⟨rfl, hb1⟩
    go_wp2_with fail
    refine (named_any t w1 (ht.below hb1)).mono ?_
    rintro e w2 ⟨rfl, hb2⟩
    go_wp2
    go_ret2
    exact ⟨rfl, bt hb1 hb2⟩

end Go.Proofs.YtgjlfcamgkeibaaGreatDoor.Re

namespace Go.Proofs.YtgjlfcamgkeibaaGreatDoor.Re
set_option maxRecDepth 100000
set_option linter.unusedSimpArgs false
set_option linter.unusedVariables false
open Go.RowKit Ba Rm
theorem strCells_L (s : ByteArray) : Lib.strCells s = (L s).map bc := rfl
theorem app_str {ops : Array Oper} {rest : List Oper} {o : Oper} {a : Act} {Q : Exit → Act → World → Prop} (w : World) (hgd : o.guard = none) (s x : Operand)
    (ho : o.op = .call { callee := .builtin .append, args := #[s, x], argTypes := #[88, 9] })
    (N : Nat) (v : Value) (l : List UInt8) (t : ByteArray) (hs : a.eval s = v) (hown : OwnB N w v l) (hx : a.eval x = .string t)
    (hl : l.length + t.size ≤ 140737488355328) (hN : N ≤ w.heap.size)
    (h : ∀ v' w', OwnB N w' v' (l ++ L t) → (∀ w0, Below N w0 w → Below N w0 w') → wpList Tryz.prog ops Q rest (a.put o.dst v') w') :
    wpList Tryz.prog ops Q (o :: rest) a w := by
  obtain ⟨i0, hi, hz0, hz1, hz2⟩ := info_parts info_u8
  refine Lib.wpList_append_own_string _ hgd s x 88 9 ho N 5 i0 Tryz.underlying88 Tryz.underlying9 hi hz0 hz1 hz2 v l.length (l.map bc) hs hown t hx (by unfold maxLen; omega) hl hN ?_
  intro v2 w2 hown2 hgrow2 _
  refine h v2 w2 ?_ fun w0 hb => hown.below hgrow2 hb hN
  rw [strCells_L] at hown2
  exact OwnB.appended hown2 (by rw [size_L])

theorem bodyOf1 (w : World) (s x : ByteArray) (ok : Bool) (hs : s.size ≤ 140737488355328) (h1 : B ((bod (L s)).getD []) = x) (h2 : (bod (L s)).isSome = ok) :
    Calls Tryz.prog 211 #[.string s] w fun e w' => e = .returned (.tuple #[.string x, .bool ok]) ∧ w = w' := by
  have k := bodyOf_any s w hs
  rw [h1, h2] at k
  exact k
theorem denoted1 (w : World) (s x : ByteArray) (ok : Bool) (ht : Tab w) (hs : s.size ≤ 140737488355328) (h1 : B ((meant (L s)).getD []) = x) (h2 : (meant (L s)).isSome = ok) :
    Calls Tryz.prog 212 #[.string s] w fun e w' => e = .returned (.tuple #[.string x, .bool ok]) ∧ Below w.heap.size w w' := by
  have k := denoted_any s w ht hs
  rw [h1, h2] at k
  exact k
theorem fst_amp {r : List UInt8} : fst (38 :: r) = (match bod r with | some b => (match meant b with | some t => (t, b.length + 2) | none => ([38], 1)) | none => ([38], 1)) := by
  rw [fst_cons, if_pos rfl, refAt_bod]
  cases bod r with
  | none => rfl
  | some b => cases hm : meant b <;> simp [hm]
theorem bod_len {r b : List UInt8} (h : bod r = some b) : b.length + 1 ≤ r.length := len_cut ((bod_cut r).1 b h)
theorem ext1 (s : ByteArray) (h : 0 < s.size) : s.extract 0 1 = B [s[0]] := B_of (by rw [L_extract, List.drop_zero, show 1 - 0 = 0 + 1 from rfl, take_snoc s 0 h]; rfl)

set_option maxHeartbeats 1000000 in
theorem first_any (s t : ByteArray) (n : Nat) (w : World) (ht : Tab w) (h0 : 0 < s.size) (hs : s.size ≤ 140737488355328) (h1 : B (fst (L s)).1 = t) (h2 : (fst (L s)).2 = n) :
    Calls Tryz.prog 174 #[.string s] w fun e w' => e = .returned (.tuple #[.string t, .int .i64 n]) ∧ Below w.heap.size w w' := by
  have hL : L s = s[0] :: (L s).drop 1 := by
    have := drop_cons s 0 h0
    rw [List.drop_zero] at this
    exact this
  have hz : (1 : Int) ≤ s.size := by omega
  by_cases h8 : s[0] = 38
  · have hb : (((s[0].toNat : Int)) == 38) = true := by rw [h8]; rfl
    rw [hL, h8, fst_amp] at h1 h2
    have hxs : (s.extract 1 s.size).size ≤ 140737488355328 := Nat.le_trans (size_extract s 1 s.size) hs
    have hxL := L_end s 1
    cases hbd : bod ((L s).drop 1) with
    | none =>
      rw [hbd] at h1 h2
      have e1 : t = s.extract 0 1 := by rw [← h1, ext1 s h0, h8]
      have e2 : n = 1 := h2.symm
      subst e1 e2
      have k1 : B ((bod (L (s.extract 1 s.size))).getD []) = B [] := by rw [hxL, hbd]; rfl
      have k2 : (bod (L (s.extract 1 s.size))).isSome = false := by rw [hxL, hbd]; rfl
      have K1 := Lib.hid k1; have K2 := Lib.hid k2
      clear k1 k2 hxL hbd hL h1 h2 h8
      go_enter Tryz.func174, Tryz.ntmps174
      go_wp2_with fail
      refine (bodyOf1 w _ _ _ hxs K1.out K2.out).mono ?_
      rintro e w1 ⟨rfl, rfl⟩
      go_wp2
      go_ret2
      exact ⟨rfl, Below.refl _ _⟩
    | some b =>
      rw [hbd] at h1 h2
      simp only at h1 h2
      have hbl := bod_len hbd
      rw [List.length_drop, size_L] at hbl
      have k1 : B ((bod (L (s.extract 1 s.size))).getD []) = B b := by rw [hxL, hbd]; rfl
      have k2 : (bod (L (s.extract 1 s.size))).isSome = true := by rw [hxL, hbd]; rfl
      have hbs : (B b).size ≤ 140737488355328 := by rw [size_B]; omega
      have hbz : (B b).size = b.length := size_B b
      have K1 := Lib.hid k1; have K2 := Lib.hid k2
      clear k1 k2 hxL hbd hL
      cases hm : meant b with
      | none =>
        rw [hm] at h1 h2
        have e1 : t = s.extract 0 1 := by rw [← h1, ext1 s h0, h8]
        have e2 : n = 1 := h2.symm
        subst e1 e2
        have j1 : B ((meant (L (B b))).getD []) = B [] := by rw [L_B, hm]; rfl
        have j2 : (meant (L (B b))).isSome = false := by rw [L_B, hm]; rfl
        have J1 := Lib.hid j1; have J2 := Lib.hid j2
        generalize B b = u at hbs hbz J1 J2 K1
        clear j1 j2 hm h1 h2 h8
        go_enter Tryz.func174, Tryz.ntmps174
        go_wp2_with fail
        refine (bodyOf1 w _ _ _ hxs K1.out K2.out).mono ?_
        rintro e w1 ⟨rfl, rfl⟩
        go_wp2_with fail
        refine (denoted1 w _ _ _ ht hbs J1.out J2.out).mono ?_
        rintro e w2 ⟨rfl, hb2⟩
        go_wp2
        go_ret2
        exact ⟨rfl, hb2⟩
      | some x =>
        rw [hm] at h1 h2
        simp only at h1 h2
        subst h1 h2
        have j1 : B ((meant (L (B b))).getD []) = B x := by rw [L_B, hm]; rfl
        have j2 : (meant (L (B b))).isSome = true := by rw [L_B, hm]; rfl
        have J1 := Lib.hid j1; have J2 := Lib.hid j2
        clear j1 j2 hm h8
        generalize B b = u at hbs hbz J1 J2 K1
        go_enter Tryz.func174, Tryz.ntmps174
        go_wp2_with fail
        refine (bodyOf1 w _ _ _ hxs K1.out K2.out).mono ?_
        rintro e w1 ⟨rfl, rfl⟩
        go_wp2_with fail
        refine (denoted1 w _ _ _ ht hbs J1.out J2.out).mono ?_
        rintro e w2 ⟨rfl, hb2⟩
        go_wp2
        go_ret2
        refine ⟨?_, hb2⟩
        simp
        omega
  · have hb : (((s[0].toNat : Int)) == 38) = false := u8_ne (b := 38) h8
    rw [hL, fst_byte _ h8] at h1 h2
    have e1 : t = s.extract 0 1 := by rw [← h1, ext1 s h0]
    have e2 : n = 1 := h2.symm
    subst e1 e2
    clear hL h1 h2 h8
    go_enter Tryz.func174, Tryz.ntmps174
    go_wp2
    go_ret2
    exact ⟨rfl, Below.refl _ _⟩

end Go.Proofs.YtgjlfcamgkeibaaGreatDoor.Re

namespace Go.Proofs.YtgjlfcamgkeibaaGreatDoor.Re
set_option maxRecDepth 100000
set_option linter.unusedSimpArgs false
set_option linter.unusedVariables false
open Go.RowKit Ba Rm
theorem dec_bound {acc l : List UInt8} {x : List UInt8} (h : acc ++ dec l = dec x) : acc.length + (dec l).length ≤ x.length := by
  have h1 := congrArg List.length h
  have h2 := len_dec x
  rw [List.length_append] at h1
  omega

set_option maxHeartbeats 1000000 in
theorem decode_any (s : ByteArray) (w : World) (ht : Tab w) (hs : s.size ≤ 140737488351232) :
    Calls Tryz.prog 121 #[.string s] w fun e w' => e = .returned (.string (B (dec (L s)))) ∧ Below w.heap.size w w' := by
  obtain ⟨i0, hi, hz0, hz1, hz2⟩ := info_parts info_u8
  go_enter Tryz.func121, Tryz.ntmps121
  go_wp2_with (at_make; refine wpList_make_own _ rfl (.const (.int .i64 0)) (.tmp 8) 88 rfl w.heap.size 5 i0 (.int .u8 0) 1 Tryz.underlying88 hi hz0 hz1 .i64 .i64 _ s.size rfl rfl rfl (by rw [hz2]; omega) (by unfold maxLen; omega) (Nat.le_refl _) ?_; intro w1 hown hgrow)
  have hb0 : Below w.heap.size w w1 := (Below.refl w.heap.size w).grown hgrow (Nat.le_refl _) (by simp)
  have ho0 : OwnB w.heap.size w1 (.slice (some ⟨w.heap.size, 0, none⟩) 0 s.size) [] := hown
  clear hown hgrow
  go_loopw [3, 4] (fun v i wr => ∃ (k : Nat) (acc : List UInt8), i = .int .i64 k ∧ k ≤ s.size ∧ OwnB w.heap.size wr v acc ∧ acc ++ dec ((L s).drop k) = dec (L s) ∧ Below w.heap.size w wr) (fun _ i _ => s.size - (intOf i).toNat)
  case atStart => exact ⟨0, [], rfl, Nat.zero_le _, ho0, by simp, hb0⟩
  case round =>
    clear ho0 hb0
    obtain ⟨k, acc, rfl, hks, hown, hc, hbel⟩ := hrel
    have hN := hbel.size
    by_cases hp : k < s.size
    · have hne : (L s).drop k ≠ [] := by rw [drop_cons s k hp]; exact List.cons_ne_nil _ _
      have hbd := dec_bound hc
      have hok := fst_ok _ hne
      rw [dec_step hne] at hc hbd
      have hxz : 0 < (s.extract k s.size).size := by rw [← size_L, L_end, List.length_drop, size_L]; omega
      have hxs : (s.extract k s.size).size ≤ 140737488355328 := Nat.le_trans (size_extract s k s.size) (by omega)
      obtain ⟨t, hT⟩ : ∃ t, B (fst (L (s.extract k s.size))).1 = t := ⟨_, rfl⟩
      obtain ⟨n, hn⟩ : ∃ n, (fst (L (s.extract k s.size))).2 = n := ⟨_, rfl⟩
      have hTL : (fst ((L s).drop k)).1 = L t := by rw [← hT, L_end, L_B]
      have hnn : (fst ((L s).drop k)).2 = n := by rw [← hn, L_end]
      rw [hTL, hnn, List.drop_drop] at hc
      rw [hTL, hnn] at hok
      rw [hTL, List.length_append, size_L, size_L] at hbd
      rw [List.length_drop, size_L, size_L] at hok
      obtain ⟨hn1, hn2, hn3⟩ := hok
      have hbt : acc.length + t.size ≤ 140737488355328 := by omega
      have HC := Lib.hid hc; have HT := Lib.hid hT; have HN := Lib.hid hn; have HX := Lib.hid hxz
      have hnc : (n : Int) ≤ 140737488355328 := by omega
      clear hc hT hn hTL hnn hbd hn3 hne hxz
      go_wp2_with fail
      refine (first_any _ t n wr (ht.below hbel) HX.out hxs HT.out HN.out).mono ?_
      rintro e w3 ⟨rfl, hb3⟩
      have hbel3 : Below w.heap.size w w3 := hbel.trans (hb3.mono hN)
      have hown3 : OwnB w.heap.size w3 _ acc := OwnB.keep hown hb3
      have hN3 := hbel3.size
      clear hown
      go_wp2_with (at_builtin; refine app_str w3 rfl (.tmp 21) (.tmp 22) rfl w.heap.size _ acc t rfl hown3 rfl hbt hN3 ?_; intro v4 w4 hown4 hk4)
      go_roundw
      case rel => exact ⟨k + n, acc ++ L t, by go_num, by omega, hown4, by rw [List.append_assoc]; exact HC.out, hk4 _ hbel3⟩
      case measure => simp [intOf]; omega
    · have hcv := hown.string
      rw [drop_nil s k hp, dec_nil, List.append_nil] at hc
      subst hc
      go_wp2
      go_ret
      exact ⟨rfl, hbel⟩

end Go.Proofs.YtgjlfcamgkeibaaGreatDoor.Re

namespace Go.Proofs.YtgjlfcamgkeibaaGreatDoor.To
set_option maxRecDepth 100000
set_option linter.unusedSimpArgs false
set_option linter.unusedVariables false
open Go.RowKit Ba Fm Fo Tm
def Rc (w : World) (b : Nat) (s : ByteArray) (k : Nat) (v : Value) : Prop := w.heap[b]? = some (.cells #[.string s, .int .i64 k, v] 119)
theorem Rc.c0 {w : World} {b k : Nat} {s : ByteArray} {v : Value} (h : Rc w b s k v) : w.cell? ⟨b, 0, none⟩ = some (.string s) := by rw [cell_of_row w b 0 _ _ _ h]; rfl
theorem Rc.c1 {w : World} {b k : Nat} {s : ByteArray} {v : Value} (h : Rc w b s k v) : w.cell? ⟨b, 1, none⟩ = some (.int .i64 k) := by rw [cell_of_row w b 1 _ _ _ h]; rfl
theorem Rc.c2 {w : World} {b k : Nat} {s : ByteArray} {v : Value} (h : Rc w b s k v) : w.cell? ⟨b, 2, none⟩ = some v := by rw [cell_of_row w b 2 _ _ _ h]; rfl
theorem Rc.f {w : World} {b k : Nat} {s : ByteArray} {v : Value} (h : Rc w b s k v) (j : Nat) : w.frozen? ⟨b, j, none⟩ = false := by
  unfold Rc at h
  simp [World.frozen?, h]
theorem Rc.lt {w : World} {b k : Nat} {s : ByteArray} {v : Value} (h : Rc w b s k v) : b < w.heap.size := (Array.getElem?_eq_some_iff.1 h).1
theorem Rc.set1 {w : World} {b k : Nat} {s : ByteArray} {v : Value} (h : Rc w b s k v) (m : Nat) : Rc (w.setCell ⟨b, 1, none⟩ (.int .i64 m)) b s m v := by
  unfold Rc at h ⊢
  simp [World.setCell, Array.getElem?_modify, h]
theorem Rc.set2 {w : World} {b k : Nat} {s : ByteArray} {v : Value} (h : Rc w b s k v) (u : Value) : Rc (w.setCell ⟨b, 2, none⟩ u) b s k u := by
  unfold Rc at h ⊢
  simp [World.setCell, Array.getElem?_modify, h]
theorem Rc.drew {w : World} {b k : Nat} {s : ByteArray} {v : Value} (h : Rc w b s k v) (n : Nat) : Rc (w.drewN n) b s k v := h
theorem Rc.below {w w' : World} {b k : Nat} {s : ByteArray} {v : Value} (h : Rc w b s k v) (hb : Below w.heap.size w w') : Rc w' b s k v := (hb.block b h.lt).trans h
abbrev rp (b : Nat) : Value := .pointer (some ⟨b, 0, none⟩)

theorem g_dN (w : World) (n : Nat) (row : Option Nat) : w.grownBy (w.drewN n) row := ⟨rfl, rfl, rfl, Nat.le_refl _, fun _ _ _ => rfl⟩
theorem g_set (w : World) (b j : Nat) (u : Value) : w.grownBy (w.setCell ⟨b, j, none⟩ u) (some b) :=
  ⟨rfl, rfl, rfl, by simp [World.setCell], fun k _ hk => Below.heap_setCell _ _ _ _ (fun e => hk (by simp [e]))⟩

theorem quietB {P : Program} {f : FuncId} {args : Array Value} {w : World} {n : Nat} {u v : Bool}
    (h : Calls P f args (w.drewN n) fun e w' => e = .returned (.bool u) ∧ w.drewN n = w') (hu : u = v) : Calls P f args (w.drewN n) fun e w'' => e = .returned (.bool v) ∧ ∃ m, w'' = w.drewN m :=
  h.mono fun _ _ ⟨he, hm⟩ => ⟨by rw [he, hu], n, hm.symm⟩

def hd (c : UInt8) (l : List UInt8) : Bool := by1 (is c) l

set_option maxHeartbeats 1000000 in
theorem pass_any (b k : Nat) (s : ByteArray) (v : Value) (c : UInt8) (w : World) (h : Rc w b s k v) (hk : k ≤ s.size) (hs : s.size ≤ 140737488355328) :
    Calls Tryz.prog 182 #[rp b, .int .u8 c.toNat] w fun e w' => e = .returned (.bool (hd c ((L s).drop k))) ∧ Rc w' b s (k + (hd c ((L s).drop k)).toNat) v ∧ w.grownBy w' (some b) := by
  have c0 := h.c0; have c1 := h.c1; have f1 := h.f 1
  by_cases hp : k < s.size
  · rw [drop_cons s k hp]
    have hlt : decide ((k : Int) < s.size) = true := decide_eq_true (by omega)
    have he := u8_eq (a := s[k]) (b := c)
    cases hq : (s[k] == c) with
    | true =>
      rw [hq] at he
      have hr : hd c (s[k] :: (L s).drop (k + 1)) = true := hq
      rw [hr]
      have H := Lib.hid h; clear h hr hq
      go_enter Tryz.func182, Tryz.ntmps182
      go_wp2
      go_quiet (fail)
      go_wp2
      go_ret
      exact ⟨rfl, H.out.set1 (k + 1), (g_dN _ _ _).trans (g_set _ _ _ _)⟩
    | false =>
      rw [hq] at he
      have hr : hd c (s[k] :: (L s).drop (k + 1)) = false := hq
      rw [hr]
      have H := Lib.hid h; clear h hr hq
      go_enter Tryz.func182, Tryz.ntmps182
      go_wp2
      go_quiet (fail)
      go_wp2
      go_ret
      exact ⟨rfl, H.out, g_dN _ _ _⟩
  · have hlt : decide ((k : Int) < s.size) = false := decide_eq_false (by omega)
    rw [drop_nil s k hp]
    have H := Lib.hid h; clear h
    go_enter Tryz.func182, Tryz.ntmps182
    go_wp2
    go_quiet (fail)
    go_wp2
    go_ret
    exact ⟨rfl, H.out, g_dN _ _ _⟩

def posOf (w : World) (b : Nat) : Nat := match w.cell? ⟨b, 1, none⟩ with | some v => (intOf v).toNat | none => 0
theorem Rc.pos {w : World} {b k : Nat} {s : ByteArray} {v : Value} (h : Rc w b s k v) : posOf w b = k := by
  unfold posOf
  rw [h.c1]
  simp [intOf]

set_option maxHeartbeats 1000000 in
theorem skip_any (b k : Nat) (s : ByteArray) (v : Value) (w : World) (h : Rc w b s k v) (hk : k ≤ s.size) (hs : s.size ≤ 140737488355328) :
    Calls Tryz.prog 256 #[rp b] w fun e w' => e = .returned (.tuple #[]) ∧ ∃ m, m ≤ s.size ∧ (L s).drop m = trimS ((L s).drop k) ∧ Rc w' b s m v ∧ w.grownBy w' (some b) := by
  go_enter Tryz.func256, Tryz.ntmps256
  go_wp2
  go_loopw [] (fun wr => ∃ m : Nat, m ≤ s.size ∧ trimS ((L s).drop m) = trimS ((L s).drop k) ∧ Rc wr b s m v ∧ w.grownBy wr (some b)) (fun wr => s.size - posOf wr b)
  case atStart => exact ⟨k, hk, rfl, h, World.grownBy.refl _ _⟩
  case round =>
    clear h
    obtain ⟨m, hm, ht, h, hg⟩ := hrel
    have c0 := h.c0; have c1 := h.c1; have f1 := h.f 1
    have hpos := h.pos
    by_cases hp : m < s.size
    · rw [drop_cons s m hp] at ht
      have hlt : decide ((m : Int) < s.size) = true := decide_eq_true (by omega)
      cases hsp : sp s[m] with
      | true =>
        rw [trimS_sp _ hsp] at ht
        have H := Lib.hid h; have HT := Lib.hid ht; have HS := Lib.hid hsp; have HP := Lib.hid hpos; have HG := Lib.hid hg; clear h ht hsp hpos hg
        go_wp2
        go_quiet (exact quietB (space_any s[m] _) HS.out)
        go_wp2
        go_roundw
        case rel => exact ⟨m + 1, by omega, HT.out, H.out.set1 (m + 1), (HG.out.trans (g_dN _ _ _)).trans (g_set _ _ _ _)⟩
        case measure =>
          rw [show posOf ((wr.drewN nq).setCell ⟨b, 1, none⟩ (.int .i64 (m + 1))) b = m + 1 from ((H.out.drew nq).set1 (m + 1)).pos, HP.out]
          omega
      | false =>
        rw [trimS_no _ hsp, ← drop_cons s m hp] at ht
        have H := Lib.hid h; have HT := Lib.hid ht; have HS := Lib.hid hsp; have HG := Lib.hid hg; clear h ht hsp hpos hg
        go_wp2
        go_quiet (exact quietB (space_any s[m] _) HS.out)
        go_wp2
        go_end0
        exact ⟨rfl, m, hm, HT.out, H.out, HG.out.trans (g_dN _ _ _)⟩
    · have hlt : decide ((m : Int) < s.size) = false := decide_eq_false (by omega)
      rw [drop_nil s m hp, trimS_nil] at ht
      have H := Lib.hid h; have HT := Lib.hid ht; have HG := Lib.hid hg; clear h ht hpos hg
      go_wp2
      go_quiet (fail)
      go_wp2
      go_end0
      exact ⟨rfl, m, hm, by rw [← HT.out, drop_nil s m hp], H.out, HG.out.trans (g_dN _ _ _)⟩

end Go.Proofs.YtgjlfcamgkeibaaGreatDoor.To

namespace Go.Proofs.YtgjlfcamgkeibaaGreatDoor.To
set_option maxRecDepth 100000
set_option linter.unusedSimpArgs false
set_option linter.unusedVariables false
open Go.RowKit Ba Fm Fo Tm
theorem closes_any (c : UInt8) (w : World) : Calls Tryz.prog 181 #[.int .u8 c.toNat] w fun e w' => e = .returned (.bool (gt c)) ∧ w = w' := by
  have e62 : ((c.toNat : Int) == 62) = (c == 62) := u8_eq (b := 62)
  obtain ⟨q, hq⟩ : ∃ q, (c == 62) = q := ⟨_, rfl⟩
  rw [hq] at e62
  have hg : gt c = q := hq
  have HG := Lib.hid hg; clear hg hq
  go_enter Tryz.func181, Tryz.ntmps181
  go_wp2
  go_ret
  exact ⟨ret_bool HG.out.symm, rfl⟩

theorem endsValue_any (c : UInt8) (w : World) : Calls Tryz.prog 243 #[.int .u8 c.toNat] w fun e w' => e = .returned (.bool (ev c)) ∧ w = w' := by
  have e0 : ((c.toNat : Int) == 62) = (c == 62) := u8_eq (b := 62)
  cases hq : (c == 62) with
  | true =>
    rw [hq] at e0
    have hg : ev c = true := by unfold ev; rw [hq]; rfl
    have HG := Lib.hid hg; clear hg hq
    go_enter Tryz.func243, Tryz.ntmps243
    go_wp2
    go_ret
    exact ⟨ret_bool HG.out.symm, rfl⟩
  | false =>
    rw [hq] at e0
    have hg : ev c = sp c := by unfold ev; rw [hq]; rfl
    have HG := Lib.hid hg; clear hg hq
    go_enter Tryz.func243, Tryz.ntmps243
    go_wp2_with (go_at_call 220; refine (space_any c _).mono ?_; rintro e w' ⟨rfl, rfl⟩)
    go_ret
    exact ⟨ret_bool HG.out.symm, rfl⟩

theorem endsName_any (c : UInt8) (w : World) : Calls Tryz.prog 217 #[.int .u8 c.toNat] w fun e w' => e = .returned (.bool (en c)) ∧ w = w' := by
  have e0 : ((c.toNat : Int) == 47) = (c == 47) := u8_eq (b := 47)
  cases hq : (c == 47) with
  | true =>
    rw [hq] at e0
    have hg : en c = true := by unfold en; rw [hq]; rfl
    have HG := Lib.hid hg; clear hg hq
    go_enter Tryz.func217, Tryz.ntmps217
    go_wp2
    go_ret
    exact ⟨ret_bool HG.out.symm, rfl⟩
  | false =>
    rw [hq] at e0
    have hg : en c = ev c := by unfold en; rw [hq]; rfl
    have HG := Lib.hid hg; clear hg hq
    go_enter Tryz.func217, Tryz.ntmps217
    go_wp2_with (go_at_call 243; refine (endsValue_any c _).mono ?_; rintro e w' ⟨rfl, rfl⟩)
    go_ret
    exact ⟨ret_bool HG.out.symm, rfl⟩

theorem endsAttr_any (c : UInt8) (w : World) : Calls Tryz.prog 255 #[.int .u8 c.toNat] w fun e w' => e = .returned (.bool (ea c)) ∧ w = w' := by
  have e0 : ((c.toNat : Int) == 61) = (c == 61) := u8_eq (b := 61)
  cases hq : (c == 61) with
  | true =>
    rw [hq] at e0
    have hg : ea c = true := by unfold ea; rw [hq]; rfl
    have HG := Lib.hid hg; clear hg hq
    go_enter Tryz.func255, Tryz.ntmps255
    go_wp2
    go_ret
    exact ⟨ret_bool HG.out.symm, rfl⟩
  | false =>
    rw [hq] at e0
    have hg : ea c = en c := by unfold ea; rw [hq]; rfl
    have HG := Lib.hid hg; clear hg hq
    go_enter Tryz.func255, Tryz.ntmps255
    go_wp2_with (go_at_call 217; refine (endsName_any c _).mono ?_; rintro e w' ⟨rfl, rfl⟩)
    go_ret
    exact ⟨ret_bool HG.out.symm, rfl⟩

theorem quote_any (c q : UInt8) (g : Nat) (w : World) (h : w.cell? ⟨g, 0, none⟩ = some (.int .u8 q.toNat)) :
    Calls Tryz.prog 260 #[.int .u8 c.toNat, .pointer (some ⟨g, 0, none⟩)] w fun e w' => e = .returned (.bool (is q c)) ∧ w = w' := by
  have e0 : ((c.toNat : Int) == (q.toNat : Int)) = is q c := u8_eq
  obtain ⟨u, hu⟩ : ∃ u, is q c = u := ⟨_, rfl⟩
  rw [hu] at e0
  have HU := Lib.hid hu; clear hu
  go_enter Tryz.func260, Tryz.ntmps260
  go_wp2
  go_ret
  exact ⟨ret_bool HU.out.symm, rfl⟩

theorem pre_yes (s t : ByteArray) : ((s.extract 0 t.size).toList == t.toList) = pre (L t) (L s) := by
  rw [eq_of_toList]
  unfold pre
  refine decide_eq_decide.2 ?_
  rw [size_L]
  constructor
  · intro e
    have := congrArg L e
    rwa [L_extract, Nat.sub_zero, List.drop_zero] at this
  · intro e
    apply L_inj
    rwa [L_extract, Nat.sub_zero, List.drop_zero]
theorem pre_short (s t : ByteArray) (h : ¬ t.size ≤ s.size) : pre (L t) (L s) = false := by
  unfold pre
  refine decide_eq_false fun e => ?_
  have := congrArg List.length e
  rw [List.length_take, size_L, size_L] at this
  omega
set_option maxHeartbeats 1000000 in
theorem starts_any (s t : ByteArray) (w : World) (hs : s.size ≤ 140737488355328) (ht : t.size ≤ 140737488355328) :
    Calls Tryz.prog 237 #[.string s, .string t] w fun e w' => e = .returned (.bool (pre (L t) (L s))) ∧ w = w' := by
  by_cases hp : t.size ≤ s.size
  · have hd : decide ((t.size : Int) ≤ s.size) = true := decide_eq_true (by omega)
    have he := pre_yes s t
    obtain ⟨q, hq⟩ : ∃ q, pre (L t) (L s) = q := ⟨_, rfl⟩
    rw [hq] at he
    have HQ := Lib.hid hq; clear hq
    go_enter Tryz.func237, Tryz.ntmps237
    go_wp2
    go_ret
    exact ⟨ret_bool HQ.out.symm, rfl⟩
  · have hd : decide ((t.size : Int) ≤ s.size) = false := decide_eq_false (by omega)
    have hq := pre_short s t hp
    have HQ := Lib.hid hq; clear hq
    go_enter Tryz.func237, Tryz.ntmps237
    go_wp2
    go_ret
    exact ⟨ret_bool HQ.out.symm, rfl⟩

theorem by1_at (q : UInt8 → Bool) (s : ByteArray) (k : Nat) (h : k < s.size) (b : Bool) (hb : q s[k] = b) : by1 q ((L s).drop k) = b := by
  rw [drop_cons s k h]
  exact hb
theorem lead_at {p : List UInt8 → Bool} {s : ByteArray} {k : Nat} (h : k < s.size) (hp : p ((L s).drop k) = false) : lead p ((L s).drop k) = s[k] :: lead p ((L s).drop (k + 1)) ∧ trail p ((L s).drop k) = trail p ((L s).drop (k + 1)) := by
  rw [drop_cons s k h] at hp ⊢
  exact ⟨lead_no hp, trail_no hp⟩
theorem lead_end {p : List UInt8 → Bool} {s : ByteArray} {k : Nat} (hp : p ((L s).drop k) = true ∨ ¬ k < s.size) : lead p ((L s).drop k) = [] ∧ trail p ((L s).drop k) = (L s).drop k := by
  by_cases h : k < s.size
  · have hp := hp.resolve_right (by omega)
    rw [drop_cons s k h] at hp ⊢
    exact ⟨lead_yes hp, trail_yes hp⟩
  · rw [drop_nil s k h]
    exact ⟨rfl, rfl⟩
def Far (p : List UInt8 → Bool) (s : ByteArray) (k m : Nat) : Prop := k ≤ m ∧ m ≤ s.size ∧ lead p ((L s).drop k) = ((L s).drop k).take (m - k) ++ lead p ((L s).drop m) ∧ trail p ((L s).drop k) = trail p ((L s).drop m)
theorem Far.start {p : List UInt8 → Bool} {s : ByteArray} {k : Nat} (h : k ≤ s.size) : Far p s k k := ⟨Nat.le_refl _, h, by simp, rfl⟩
theorem Far.next {p : List UInt8 → Bool} {s : ByteArray} {k m : Nat} (h : Far p s k m) (hm : m < s.size) (hp : p ((L s).drop m) = false) : Far p s k (m + 1) := by
  obtain ⟨h1, h2, h3, h4⟩ := h
  obtain ⟨a1, a2⟩ := lead_at hm hp
  refine ⟨by omega, by omega, ?_, h4.trans a2⟩
  rw [h3, a1]
  have e : ((L s).drop k).take (m + 1 - k) = ((L s).drop k).take (m - k) ++ [s[m]] := by
    rw [show m + 1 - k = (m - k) + 1 from by omega, List.take_succ_eq_append_getElem (by rw [List.length_drop, size_L]; omega)]
    congr 2
    rw [List.getElem_drop]
    simp [show k + (m - k) = m from by omega]
    rfl
  rw [e, List.append_assoc]
  rfl
theorem Far.done {p : List UInt8 → Bool} {s : ByteArray} {k m : Nat} (h : Far p s k m) (hp : p ((L s).drop m) = true ∨ ¬ m < s.size) : s.extract k m = B (lead p ((L s).drop k)) ∧ (L s).drop m = trail p ((L s).drop k) := by
  obtain ⟨h1, h2, h3, h4⟩ := h
  obtain ⟨a1, a2⟩ := lead_end hp
  refine ⟨B_of ?_, (h4.trans a2).symm⟩
  rw [L_extract, h3, a1, List.append_nil]

set_option maxHeartbeats 1000000 in
theorem upTo_gt (b k : Nat) (s : ByteArray) (v : Value) (w : World) (h : Rc w b s k v) (hk : k ≤ s.size) (hs : s.size ≤ 140737488355328) :
    Calls Tryz.prog 180 #[rp b, .func (.func 181) #[] #[]] w fun e w' => e = .returned (.string (B (upTo (gt) ((L s).drop k)))) ∧ ∃ m, m ≤ s.size ∧ (L s).drop m = from_ (gt) ((L s).drop k) ∧ Rc w' b s m v ∧ w.grownBy w' (some b) := by
  have c1 := h.c1
  go_enter Tryz.func180, Tryz.ntmps180
  go_wp2
  clear c1
  go_loopw [] (fun wr => ∃ m : Nat, Far (by1 (gt)) s k m ∧ Rc wr b s m v ∧ w.grownBy wr (some b)) (fun wr => s.size - posOf wr b)
  case atStart => exact ⟨k, .start hk, h, World.grownBy.refl _ _⟩
  case round =>
    clear h
    obtain ⟨m, hf, h, hg⟩ := hrel
    have hm := hf.2.1
    have hkm := hf.1
    have c0 := h.c0; have c1 := h.c1; have f1 := h.f 1
    have hpos := h.pos
    
    by_cases hp : m < s.size
    · have hlt : decide ((m : Int) < s.size) = true := decide_eq_true (by omega)
      cases hsp : (gt) s[m] with
      | false =>
        have hf := hf.next hp (by1_at _ s m hp false hsp)
        have H := Lib.hid h; have HF := Lib.hid hf; have HS := Lib.hid hsp; have HP := Lib.hid hpos; have HG := Lib.hid hg; clear h hf hsp hpos hg
        go_wp2
        go_quiet (exact quietB (closes_any s[m] _) HS.out)
        go_wp2
        go_roundw
        case rel => exact ⟨m + 1, HF.out, H.out.set1 (m + 1), (HG.out.trans (g_dN _ _ _)).trans (g_set _ _ _ _)⟩
        case measure =>
          rw [show posOf ((wr.drewN nq).setCell ⟨b, 1, none⟩ (.int .i64 (m + 1))) b = m + 1 from ((H.out.drew nq).set1 (m + 1)).pos, HP.out]
          omega
      | true =>
        have hd := hf.done (.inl (by1_at _ s m hp true hsp))
        have H := Lib.hid h; have HD := Lib.hid hd; have HS := Lib.hid hsp; have HG := Lib.hid hg; clear h hf hsp hpos hg hd
        go_wp2
        go_quiet (exact quietB (closes_any s[m] _) HS.out)
        go_wp2
        go_quiet (fail)
        go_wp2
        go_ret
        exact ⟨ret_str HD.out.1, m, hm, HD.out.2, H.out, (HG.out.trans (g_dN _ _ _)).trans (g_dN _ _ _)⟩
    · have hlt : decide ((m : Int) < s.size) = false := decide_eq_false (by omega)
      have hd := hf.done (.inr hp)
      have H := Lib.hid h; have HD := Lib.hid hd; have HG := Lib.hid hg; clear h hf hpos hg hd
      go_wp2
      go_quiet (fail)
      go_wp2
      go_quiet (fail)
      go_wp2
      go_ret
      exact ⟨ret_str HD.out.1, m, hm, HD.out.2, H.out, (HG.out.trans (g_dN _ _ _)).trans (g_dN _ _ _)⟩

set_option maxHeartbeats 1000000 in
theorem upTo_en (b k : Nat) (s : ByteArray) (v : Value) (w : World) (h : Rc w b s k v) (hk : k ≤ s.size) (hs : s.size ≤ 140737488355328) :
    Calls Tryz.prog 180 #[rp b, .func (.func 217) #[] #[]] w fun e w' => e = .returned (.string (B (upTo (en) ((L s).drop k)))) ∧ ∃ m, m ≤ s.size ∧ (L s).drop m = from_ (en) ((L s).drop k) ∧ Rc w' b s m v ∧ w.grownBy w' (some b) := by
  have c1 := h.c1
  go_enter Tryz.func180, Tryz.ntmps180
  go_wp2
  clear c1
  go_loopw [] (fun wr => ∃ m : Nat, Far (by1 (en)) s k m ∧ Rc wr b s m v ∧ w.grownBy wr (some b)) (fun wr => s.size - posOf wr b)
  case atStart => exact ⟨k, .start hk, h, World.grownBy.refl _ _⟩
  case round =>
    clear h
    obtain ⟨m, hf, h, hg⟩ := hrel
    have hm := hf.2.1
    have hkm := hf.1
    have c0 := h.c0; have c1 := h.c1; have f1 := h.f 1
    have hpos := h.pos
    
    by_cases hp : m < s.size
    · have hlt : decide ((m : Int) < s.size) = true := decide_eq_true (by omega)
      cases hsp : (en) s[m] with
      | false =>
        have hf := hf.next hp (by1_at _ s m hp false hsp)
        have H := Lib.hid h; have HF := Lib.hid hf; have HS := Lib.hid hsp; have HP := Lib.hid hpos; have HG := Lib.hid hg; clear h hf hsp hpos hg
        go_wp2
        go_quiet (exact quietB (endsName_any s[m] _) HS.out)
        go_wp2
        go_roundw
        case rel => exact ⟨m + 1, HF.out, H.out.set1 (m + 1), (HG.out.trans (g_dN _ _ _)).trans (g_set _ _ _ _)⟩
        case measure =>
          rw [show posOf ((wr.drewN nq).setCell ⟨b, 1, none⟩ (.int .i64 (m + 1))) b = m + 1 from ((H.out.drew nq).set1 (m + 1)).pos, HP.out]
          omega
      | true =>
        have hd := hf.done (.inl (by1_at _ s m hp true hsp))
        have H := Lib.hid h; have HD := Lib.hid hd; have HS := Lib.hid hsp; have HG := Lib.hid hg; clear h hf hsp hpos hg hd
        go_wp2
        go_quiet (exact quietB (endsName_any s[m] _) HS.out)
        go_wp2
        go_quiet (fail)
        go_wp2
        go_ret
        exact ⟨ret_str HD.out.1, m, hm, HD.out.2, H.out, (HG.out.trans (g_dN _ _ _)).trans (g_dN _ _ _)⟩
    · have hlt : decide ((m : Int) < s.size) = false := decide_eq_false (by omega)
      have hd := hf.done (.inr hp)
      have H := Lib.hid h; have HD := Lib.hid hd; have HG := Lib.hid hg; clear h hf hpos hg hd
      go_wp2
      go_quiet (fail)
      go_wp2
      go_quiet (fail)
      go_wp2
      go_ret
      exact ⟨ret_str HD.out.1, m, hm, HD.out.2, H.out, (HG.out.trans (g_dN _ _ _)).trans (g_dN _ _ _)⟩

set_option maxHeartbeats 1000000 in
theorem upTo_ea (b k : Nat) (s : ByteArray) (v : Value) (w : World) (h : Rc w b s k v) (hk : k ≤ s.size) (hs : s.size ≤ 140737488355328) :
    Calls Tryz.prog 180 #[rp b, .func (.func 255) #[] #[]] w fun e w' => e = .returned (.string (B (upTo (ea) ((L s).drop k)))) ∧ ∃ m, m ≤ s.size ∧ (L s).drop m = from_ (ea) ((L s).drop k) ∧ Rc w' b s m v ∧ w.grownBy w' (some b) := by
  have c1 := h.c1
  go_enter Tryz.func180, Tryz.ntmps180
  go_wp2
  clear c1
  go_loopw [] (fun wr => ∃ m : Nat, Far (by1 (ea)) s k m ∧ Rc wr b s m v ∧ w.grownBy wr (some b)) (fun wr => s.size - posOf wr b)
  case atStart => exact ⟨k, .start hk, h, World.grownBy.refl _ _⟩
  case round =>
    clear h
    obtain ⟨m, hf, h, hg⟩ := hrel
    have hm := hf.2.1
    have hkm := hf.1
    have c0 := h.c0; have c1 := h.c1; have f1 := h.f 1
    have hpos := h.pos
    
    by_cases hp : m < s.size
    · have hlt : decide ((m : Int) < s.size) = true := decide_eq_true (by omega)
      cases hsp : (ea) s[m] with
      | false =>
        have hf := hf.next hp (by1_at _ s m hp false hsp)
        have H := Lib.hid h; have HF := Lib.hid hf; have HS := Lib.hid hsp; have HP := Lib.hid hpos; have HG := Lib.hid hg; clear h hf hsp hpos hg
        go_wp2
        go_quiet (exact quietB (endsAttr_any s[m] _) HS.out)
        go_wp2
        go_roundw
        case rel => exact ⟨m + 1, HF.out, H.out.set1 (m + 1), (HG.out.trans (g_dN _ _ _)).trans (g_set _ _ _ _)⟩
        case measure =>
          rw [show posOf ((wr.drewN nq).setCell ⟨b, 1, none⟩ (.int .i64 (m + 1))) b = m + 1 from ((H.out.drew nq).set1 (m + 1)).pos, HP.out]
          omega
      | true =>
        have hd := hf.done (.inl (by1_at _ s m hp true hsp))
        have H := Lib.hid h; have HD := Lib.hid hd; have HS := Lib.hid hsp; have HG := Lib.hid hg; clear h hf hsp hpos hg hd
        go_wp2
        go_quiet (exact quietB (endsAttr_any s[m] _) HS.out)
        go_wp2
        go_quiet (fail)
        go_wp2
        go_ret
        exact ⟨ret_str HD.out.1, m, hm, HD.out.2, H.out, (HG.out.trans (g_dN _ _ _)).trans (g_dN _ _ _)⟩
    · have hlt : decide ((m : Int) < s.size) = false := decide_eq_false (by omega)
      have hd := hf.done (.inr hp)
      have H := Lib.hid h; have HD := Lib.hid hd; have HG := Lib.hid hg; clear h hf hpos hg hd
      go_wp2
      go_quiet (fail)
      go_wp2
      go_quiet (fail)
      go_wp2
      go_ret
      exact ⟨ret_str HD.out.1, m, hm, HD.out.2, H.out, (HG.out.trans (g_dN _ _ _)).trans (g_dN _ _ _)⟩

set_option maxHeartbeats 1000000 in
theorem upTo_ev (b k : Nat) (s : ByteArray) (v : Value) (w : World) (h : Rc w b s k v) (hk : k ≤ s.size) (hs : s.size ≤ 140737488355328) :
    Calls Tryz.prog 180 #[rp b, .func (.func 243) #[] #[]] w fun e w' => e = .returned (.string (B (upTo (ev) ((L s).drop k)))) ∧ ∃ m, m ≤ s.size ∧ (L s).drop m = from_ (ev) ((L s).drop k) ∧ Rc w' b s m v ∧ w.grownBy w' (some b) := by
  have c1 := h.c1
  go_enter Tryz.func180, Tryz.ntmps180
  go_wp2
  clear c1
  go_loopw [] (fun wr => ∃ m : Nat, Far (by1 (ev)) s k m ∧ Rc wr b s m v ∧ w.grownBy wr (some b)) (fun wr => s.size - posOf wr b)
  case atStart => exact ⟨k, .start hk, h, World.grownBy.refl _ _⟩
  case round =>
    clear h
    obtain ⟨m, hf, h, hg⟩ := hrel
    have hm := hf.2.1
    have hkm := hf.1
    have c0 := h.c0; have c1 := h.c1; have f1 := h.f 1
    have hpos := h.pos
    
    by_cases hp : m < s.size
    · have hlt : decide ((m : Int) < s.size) = true := decide_eq_true (by omega)
      cases hsp : (ev) s[m] with
      | false =>
        have hf := hf.next hp (by1_at _ s m hp false hsp)
        have H := Lib.hid h; have HF := Lib.hid hf; have HS := Lib.hid hsp; have HP := Lib.hid hpos; have HG := Lib.hid hg; clear h hf hsp hpos hg
        go_wp2
        go_quiet (exact quietB (endsValue_any s[m] _) HS.out)
        go_wp2
        go_roundw
        case rel => exact ⟨m + 1, HF.out, H.out.set1 (m + 1), (HG.out.trans (g_dN _ _ _)).trans (g_set _ _ _ _)⟩
        case measure =>
          rw [show posOf ((wr.drewN nq).setCell ⟨b, 1, none⟩ (.int .i64 (m + 1))) b = m + 1 from ((H.out.drew nq).set1 (m + 1)).pos, HP.out]
          omega
      | true =>
        have hd := hf.done (.inl (by1_at _ s m hp true hsp))
        have H := Lib.hid h; have HD := Lib.hid hd; have HS := Lib.hid hsp; have HG := Lib.hid hg; clear h hf hsp hpos hg hd
        go_wp2
        go_quiet (exact quietB (endsValue_any s[m] _) HS.out)
        go_wp2
        go_quiet (fail)
        go_wp2
        go_ret
        exact ⟨ret_str HD.out.1, m, hm, HD.out.2, H.out, (HG.out.trans (g_dN _ _ _)).trans (g_dN _ _ _)⟩
    · have hlt : decide ((m : Int) < s.size) = false := decide_eq_false (by omega)
      have hd := hf.done (.inr hp)
      have H := Lib.hid h; have HD := Lib.hid hd; have HG := Lib.hid hg; clear h hf hpos hg hd
      go_wp2
      go_quiet (fail)
      go_wp2
      go_quiet (fail)
      go_wp2
      go_ret
      exact ⟨ret_str HD.out.1, m, hm, HD.out.2, H.out, (HG.out.trans (g_dN _ _ _)).trans (g_dN _ _ _)⟩

set_option maxHeartbeats 1000000 in
theorem upTo_is (b k : Nat) (s : ByteArray) (v : Value) (w : World) (h : Rc w b s k v) (hk : k ≤ s.size) (hs : s.size ≤ 140737488355328) (q : UInt8) (g : Nat) (hgb : g ≠ b) (hgl : g < w.heap.size) (hq : w.cell? ⟨g, 0, none⟩ = some (.int .u8 q.toNat)) :
    Calls Tryz.prog 180 #[rp b, .func (.func 260) #[] #[.pointer (some ⟨g, 0, none⟩)]] w fun e w' => e = .returned (.string (B (upTo (is q) ((L s).drop k)))) ∧ ∃ m, m ≤ s.size ∧ (L s).drop m = from_ (is q) ((L s).drop k) ∧ Rc w' b s m v ∧ w.grownBy w' (some b) := by
  have c1 := h.c1
  go_enter Tryz.func180, Tryz.ntmps180
  go_wp2
  clear c1
  go_loopw [] (fun wr => ∃ m : Nat, Far (by1 (is q)) s k m ∧ Rc wr b s m v ∧ w.grownBy wr (some b)) (fun wr => s.size - posOf wr b)
  case atStart => exact ⟨k, .start hk, h, World.grownBy.refl _ _⟩
  case round =>
    clear h
    obtain ⟨m, hf, h, hg⟩ := hrel
    have hm := hf.2.1
    have hkm := hf.1
    have c0 := h.c0; have c1 := h.c1; have f1 := h.f 1
    have hpos := h.pos
    have hq : wr.cell? ⟨g, 0, none⟩ = some (.int .u8 q.toNat) := hg.cell hq (by simpa using hgb)
    by_cases hp : m < s.size
    · have hlt : decide ((m : Int) < s.size) = true := decide_eq_true (by omega)
      cases hsp : (is q) s[m] with
      | false =>
        have hf := hf.next hp (by1_at _ s m hp false hsp)
        have H := Lib.hid h; have HF := Lib.hid hf; have HS := Lib.hid hsp; have HP := Lib.hid hpos; have HG := Lib.hid hg; clear h hf hsp hpos hg
        go_wp2
        go_quiet (exact quietB (quote_any s[m] q g _ hq) HS.out)
        go_wp2
        go_roundw
        case rel => exact ⟨m + 1, HF.out, H.out.set1 (m + 1), (HG.out.trans (g_dN _ _ _)).trans (g_set _ _ _ _)⟩
        case measure =>
          rw [show posOf ((wr.drewN nq).setCell ⟨b, 1, none⟩ (.int .i64 (m + 1))) b = m + 1 from ((H.out.drew nq).set1 (m + 1)).pos, HP.out]
          omega
      | true =>
        have hd := hf.done (.inl (by1_at _ s m hp true hsp))
        have H := Lib.hid h; have HD := Lib.hid hd; have HS := Lib.hid hsp; have HG := Lib.hid hg; clear h hf hsp hpos hg hd
        go_wp2
        go_quiet (exact quietB (quote_any s[m] q g _ hq) HS.out)
        go_wp2
        go_quiet (fail)
        go_wp2
        go_ret
        exact ⟨ret_str HD.out.1, m, hm, HD.out.2, H.out, (HG.out.trans (g_dN _ _ _)).trans (g_dN _ _ _)⟩
    · have hlt : decide ((m : Int) < s.size) = false := decide_eq_false (by omega)
      have hd := hf.done (.inr hp)
      have H := Lib.hid h; have HD := Lib.hid hd; have HG := Lib.hid hg; clear h hf hpos hg hd
      go_wp2
      go_quiet (fail)
      go_wp2
      go_quiet (fail)
      go_wp2
      go_ret
      exact ⟨ret_str HD.out.1, m, hm, HD.out.2, H.out, (HG.out.trans (g_dN _ _ _)).trans (g_dN _ _ _)⟩

end Go.Proofs.YtgjlfcamgkeibaaGreatDoor.To

namespace Go.Proofs.YtgjlfcamgkeibaaGreatDoor.To
set_option maxRecDepth 100000
set_option linter.unusedSimpArgs false
set_option linter.unusedVariables false
open Go.RowKit Ba Fm Fo Tm
open Ro (At acells len_acells below_new)
open Re (Tab)
theorem g_below {w0 w w' : World} {row : Option Nat} (h : w0.grownBy w row) (hb : Below w.heap.size w w') : w0.grownBy w' row :=
  ⟨hb.os.trans h.os, hb.tape.trans h.tape, hb.output.trans h.output, Nat.le_trans h.size hb.size, fun i hi hne => (hb.block i (Nat.lt_of_lt_of_le hi h.size)).trans (h.block i hi hne)⟩
theorem g_alloc (w : World) (o : Obj) (row : Option Nat) : w.grownBy (w.alloc o) row := World.grownBy_alloc w o row
theorem tab_kept {w w' : World} {b : Nat} (h : Tab w) (hg : w.grownBy w' (some b)) (hb : 0 < b) : Tab w' := by
  refine ⟨fun j v hv => ?_, Nat.lt_of_lt_of_le h.2 hg.size⟩
  exact hg.cell (a := ⟨0, 0 + j, none⟩) (h.1 j v hv) (by simp; omega)

theorem pass1 (b k : Nat) (s : ByteArray) (v : Value) (c : UInt8) (n : Int) (q : Bool) (w : World) (h : Rc w b s k v) (hk : k ≤ s.size) (hs : s.size ≤ 140737488355328) (hn : (c.toNat : Int) = n) (hq : hd c ((L s).drop k) = q) :
    Calls Tryz.prog 182 #[rp b, .int .u8 n] w fun e w' => e = .returned (.bool q) ∧ Rc w' b s (k + q.toNat) v ∧ w.grownBy w' (some b) := by
  have := pass_any b k s v c w h hk hs
  rwa [hn, hq] at this
theorem hd_drop {c : UInt8} {s : ByteArray} {k : Nat} (hk : k ≤ s.size) {q : Bool} (h : hd c ((L s).drop k) = q) : k + q.toNat ≤ s.size ∧ (L s).drop (k + q.toNat) = if q = true then ((L s).drop k).drop 1 else (L s).drop k := by
  cases q with
  | false => exact ⟨hk, rfl⟩
  | true =>
    refine ⟨?_, by simp⟩
    by_cases hp : k < s.size
    · show k + 1 ≤ _
      omega
    · rw [drop_nil s k hp] at h
      cases h
theorem hd_head {c : UInt8} {l : List UInt8} : hd c l = true ↔ l.head? = some c := by
  cases l with
  | nil => simp [hd, by1]
  | cons a r => simp [hd, by1, is]
theorem hd_no {c : UInt8} {l : List UInt8} (h : hd c l = false) : ¬ l.head? = some c := fun e => by rw [hd_head.2 e] at h; cases h
theorem from_drop {q : UInt8} {l : List UInt8} : (if hd q (from_ (is q) l) = true then (from_ (is q) l).drop 1 else from_ (is q) l) = (from_ (is q) l).drop 1 := by
  show (if hd q (trail (by1 (is q)) l) = true then (trail (by1 (is q)) l).drop 1 else trail (by1 (is q)) l) = (trail (by1 (is q)) l).drop 1
  rcases trail_cases (by1 (is q)) l with h | h
  · rw [h]; rfl
  · rw [if_pos (show hd q (trail (by1 (is q)) l) = true from h)]

set_option maxHeartbeats 1000000 in
theorem quoted_any (b k : Nat) (s : ByteArray) (v : Value) (q : UInt8) (n : Int) (w : World) (h : Rc w b s k v) (hk : k ≤ s.size) (hs : s.size ≤ 140737488351232) (hn : (q.toNat : Int) = n) :
    Calls Tryz.prog 259 #[rp b, .int .u8 n] w fun e w' => e = .returned (.string (B (quo q ((L s).drop k)).1)) ∧ ∃ m, m ≤ s.size ∧ (L s).drop m = (quo q ((L s).drop k)).2 ∧ Rc w' b s m v ∧ w.grownBy w' (some b) := by
  have hmf : ∀ (fn : Fn) (first cap : Array Value) (w : World), (Instr.makeFunc fn first cap).run Tryz.prog w = .ok (.func fn first cap) w := fun _ _ _ _ => rfl
  subst hn
  obtain ⟨w1, hw1⟩ : ∃ w1, w.alloc (.cells #[.int .u8 q.toNat] 5) = w1 := ⟨_, rfl⟩
  have h1 : Rc w1 b s k v := hw1 ▸ h.below (below_new w _)
  have hg1 : w.grownBy w1 (some b) := hw1 ▸ g_alloc w _ _
  have hc1 : w1.cell? ⟨w.heap.size, 0, none⟩ = some (.int .u8 q.toNat) := by
    rw [← hw1, World.cell?_alloc_at _ _ _ _ rfl]; rfl
  have hz1 : w.heap.size < w1.heap.size := by rw [← hw1]; simp
  have hne : w.heap.size ≠ b := by have := h.lt; omega
  have HW := Lib.hid hw1; clear hw1
  go_enter Tryz.func259, Tryz.ntmps259
  go_wp2_with fail
  clear hmf
  rw [HW.out]
  refine (upTo_is b k s v w1 h1 hk (by omega) q _ hne hz1 hc1).mono ?_
  rintro e w2 ⟨rfl, m, hm, hd2, h2, hg2⟩
  have hc2 : w2.cell? ⟨w.heap.size, 0, none⟩ = some (.int .u8 q.toNat) := hg2.cell hc1 (by simpa using hne)
  obtain ⟨u, hu⟩ : ∃ u, hd q ((L s).drop m) = u := ⟨_, rfl⟩
  have hdr := hd_drop hm hu
  have HD := Lib.hid hdr; have H2 := Lib.hid hd2; have HU := Lib.hid hu; clear hdr hd2 hu
  go_wp2_with fail
  refine (pass1 b m s v q _ u w2 h2 hm (by omega) rfl HU.out).mono ?_
  rintro e w3 ⟨rfl, h3, hg3⟩
  go_wp2
  go_ret
  refine ⟨rfl, m + u.toNat, HD.out.1, ?_, h3, (hg1.trans hg2).trans hg3⟩
  rw [HD.out.2, ← HU.out, H2.out]
  exact from_drop

theorem value_34 {l : List UInt8} (h : hd 34 l = true) : value l = quo 34 (l.drop 1) := by unfold value; rw [if_pos (hd_head.1 h)]
theorem value_39 {l : List UInt8} (h : hd 34 l = false) (h' : hd 39 l = true) : value l = quo 39 (l.drop 1) := by unfold value; rw [if_neg (hd_no h), if_pos (hd_head.1 h')]
theorem value_no {l : List UInt8} (h : hd 34 l = false) (h' : hd 39 l = false) : value l = (upTo ev l, from_ ev l) := by unfold value; rw [if_neg (hd_no h), if_neg (hd_no h')]
set_option maxHeartbeats 1000000 in
theorem value_any (b k : Nat) (s : ByteArray) (v : Value) (w : World) (h : Rc w b s k v) (hk : k ≤ s.size) (hs : s.size ≤ 140737488351232) :
    Calls Tryz.prog 257 #[rp b] w fun e w' => e = .returned (.string (B (value ((L s).drop k)).1)) ∧ ∃ m, m ≤ s.size ∧ (L s).drop m = (value ((L s).drop k)).2 ∧ Rc w' b s m v ∧ w.grownBy w' (some b) := by
  have hs' : s.size ≤ 140737488355328 := by omega
  cases h34 : hd 34 ((L s).drop k) with
  | true =>
    have hv := value_34 h34
    have hdr := hd_drop hk h34
    rw [hv]
    rw [if_pos rfl] at hdr
    rw [← hdr.2]
    have HH := Lib.hid h34; have HD := Lib.hid hdr.1; clear h34 hv hdr
    go_enter Tryz.func257, Tryz.ntmps257
    go_wp2_with fail
    refine (pass1 b k s v 34 _ true w h hk hs' rfl HH.out).mono ?_
    rintro e w2 ⟨rfl, h2, hg2⟩
    go_wp2_with fail
    refine (quoted_any b _ s v 34 _ w2 h2 HD.out hs rfl).mono ?_
    rintro e w3 ⟨rfl, m, hm, hd3, h3, hg3⟩
    go_wp2
    go_ret
    exact ⟨rfl, m, hm, hd3, h3, hg2.trans hg3⟩
  | false =>
    cases h39 : hd 39 ((L s).drop k) with
    | true =>
      have hv := value_39 h34 h39
      have hdr := hd_drop hk h39
      rw [hv]
      rw [if_pos rfl] at hdr
      rw [← hdr.2]
      have HH := Lib.hid h34; have HQ := Lib.hid h39; have HD := Lib.hid hdr.1; clear h34 h39 hv hdr
      go_enter Tryz.func257, Tryz.ntmps257
      go_wp2_with fail
      refine (pass1 b k s v 34 _ false w h hk hs' rfl HH.out).mono ?_
      rintro e w2 ⟨rfl, h2, hg2⟩
      go_wp2_with fail
      refine (pass1 b k s v 39 _ true w2 h2 hk hs' rfl HQ.out).mono ?_
      rintro e w4 ⟨rfl, h4, hg4⟩
      go_wp2_with fail
      refine (quoted_any b _ s v 39 _ w4 h4 HD.out hs rfl).mono ?_
      rintro e w3 ⟨rfl, m, hm, hd3, h3, hg3⟩
      go_wp2
      go_ret
      exact ⟨rfl, m, hm, hd3, h3, (hg2.trans hg4).trans hg3⟩
    | false =>
      have hv := value_no h34 h39
      rw [hv]
      have HH := Lib.hid h34; have HQ := Lib.hid h39; clear h34 h39 hv
      go_enter Tryz.func257, Tryz.ntmps257
      go_wp2_with fail
      refine (pass1 b k s v 34 _ false w h hk hs' rfl HH.out).mono ?_
      rintro e w2 ⟨rfl, h2, hg2⟩
      go_wp2_with fail
      refine (pass1 b k s v 39 _ false w2 h2 hk hs' rfl HQ.out).mono ?_
      rintro e w4 ⟨rfl, h4, hg4⟩
      go_wp2_with fail
      refine (upTo_ev b _ s v w4 h4 hk hs').mono ?_
      rintro e w3 ⟨rfl, m, hm, hd3, h3, hg3⟩
      go_wp2
      go_ret
      exact ⟨rfl, m, hm, hd3, h3, (hg2.trans hg4).trans hg3⟩

end Go.Proofs.YtgjlfcamgkeibaaGreatDoor.To

namespace Go.Proofs.YtgjlfcamgkeibaaGreatDoor.To
set_option maxRecDepth 100000
set_option linter.unusedSimpArgs false
set_option linter.unusedVariables false
open Go.RowKit Ba Fm Fo Tm
open Ro (At acells len_acells below_new)
open Re (Tab)
open Rm (dec)
theorem len_value1 (l : List UInt8) : (value l).1.length ≤ l.length := by
  unfold value quo
  have h1 := len_lead (by1 (is 34)) (l.drop 1)
  have h2 := len_lead (by1 (is 39)) (l.drop 1)
  have h3 := len_lead (by1 ev) l
  rw [List.length_drop] at h1 h2
  split
  · show (lead _ _).length ≤ _
    omega
  · split
    · show (lead _ _).length ≤ _
      omega
    · exact h3
def Bx (w : World) (g : Nat) (x y : ByteArray) : Prop := w.heap[g]? = some (.cells #[.string x, .string y] 51)
theorem Bx.c0 {w : World} {g : Nat} {x y : ByteArray} (h : Bx w g x y) : w.cell? ⟨g, 0, none⟩ = some (.string x) := by rw [cell_of_row w g 0 _ _ _ h]; rfl
theorem Bx.c1 {w : World} {g : Nat} {x y : ByteArray} (h : Bx w g x y) : w.cell? ⟨g, 1, none⟩ = some (.string y) := by rw [cell_of_row w g 1 _ _ _ h]; rfl
theorem Bx.f {w : World} {g : Nat} {x y : ByteArray} (h : Bx w g x y) (j : Nat) : w.frozen? ⟨g, j, none⟩ = false := by
  unfold Bx at h
  simp [World.frozen?, h]
theorem Bx.lt {w : World} {g : Nat} {x y : ByteArray} (h : Bx w g x y) : g < w.heap.size := (Array.getElem?_eq_some_iff.1 h).1
theorem Bx.set0 {w : World} {g : Nat} {x y : ByteArray} (h : Bx w g x y) (u : ByteArray) : Bx (w.setCell ⟨g, 0, none⟩ (.string u)) g u y := by
  unfold Bx at h ⊢
  simp [World.setCell, Array.getElem?_modify, h]
theorem Bx.set1 {w : World} {g : Nat} {x y : ByteArray} (h : Bx w g x y) (u : ByteArray) : Bx (w.setCell ⟨g, 1, none⟩ (.string u)) g x u := by
  unfold Bx at h ⊢
  simp [World.setCell, Array.getElem?_modify, h]
theorem Bx.kept {w w' : World} {g b : Nat} {x y : ByteArray} (h : Bx w g x y) (hg : w.grownBy w' (some b)) (hne : g ≠ b) : Bx w' g x y := (hg.block g h.lt (by simpa using hne)).trans h
theorem Bx.below {w w' : World} {g : Nat} {x y : ByteArray} (h : Bx w g x y) (hb : Below w.heap.size w w') : Bx w' g x y := (hb.block g h.lt).trans h
theorem Bx.new (w : World) (x y : ByteArray) : Bx (w.alloc (.cells #[.string x, .string y] 51)) w.heap.size x y := by
  exact (MapKept.heap_alloc w _).1
theorem Rc.other {w : World} {b k g j : Nat} {s : ByteArray} {v : Value} (h : Rc w b s k v) (hne : g ≠ b) (u : Value) : Rc (w.setCell ⟨g, j, none⟩ u) b s k v := ((g_set w g j u).block b h.lt (by simpa using Ne.symm hne)).trans h

theorem Bx.other {w : World} {g b j : Nat} {x y : ByteArray} (h : Bx w g x y) (hne : g ≠ b) (u : Value) : Bx (w.setCell ⟨b, j, none⟩ u) g x y := h.kept (g_set w b j u) hne
theorem span_of {p : List UInt8 → Bool} {s : ByteArray} {k m : Nat} (hk : k ≤ s.size) (hm : m ≤ s.size) (h : (L s).drop m = trail p ((L s).drop k)) : k ≤ m ∧ ((L s).drop k).take (m - k) = lead p ((L s).drop k) := by
  have h1 := congrArg List.length (lead_trail p ((L s).drop k))
  have h2 := congrArg List.length h
  rw [List.length_append, List.length_drop, size_L] at h1
  rw [List.length_drop, size_L] at h2
  refine ⟨by omega, ?_⟩
  have h3 := lead_trail p ((L s).drop k)
  rw [show m - k = (lead p ((L s).drop k)).length from by omega]
  have h4 : (lead p ((L s).drop k) ++ trail p ((L s).drop k)).take (lead p ((L s).drop k)).length = lead p ((L s).drop k) := by simp
  rwa [h3] at h4
theorem span_one {p : List UInt8 → Bool} {s : ByteArray} {k m : Nat} (hk : k < s.size) (hm : m ≤ s.size) (h : (L s).drop m = trail p ((L s).drop (k + 1))) : k + 1 ≤ m ∧ L (s.extract k m) = s[k] :: lead p ((L s).drop (k + 1)) := by
  obtain ⟨h1, h2⟩ := span_of (by omega) hm h
  refine ⟨h1, ?_⟩
  rw [L_extract, drop_cons s k hk, show m - k = (m - (k + 1)) + 1 from by omega, List.take_succ_cons, h2]

theorem attr_eq (c : UInt8) (r : List UInt8) : attr c r = (⟨B (lowL (c :: upTo ea r)), B (valued (trimS (from_ ea r))).1⟩, (valued (trimS (from_ ea r))).2) := rfl
theorem valued_yes {l : List UInt8} (h : hd 61 l = true) : valued l = (dec (value (trimS (l.drop 1))).1, (value (trimS (l.drop 1))).2) := by unfold valued; rw [if_pos (hd_head.1 h)]
theorem valued_no {l : List UInt8} (h : hd 61 l = false) : valued l = ([], l) := by unfold valued; rw [if_neg (hd_no h)]

theorem box_first (w3 w4 : World) (hb : Below (w3.alloc (.cells #[.string ⟨#[]⟩, .string ⟨#[]⟩] 51)).drew.heap.size (w3.alloc (.cells #[.string ⟨#[]⟩, .string ⟨#[]⟩] 51)).drew w4) :
    Bx w4 w3.heap.size ⟨#[]⟩ ⟨#[]⟩ ∧ Below w3.heap.size w3 w4 := by
  refine ⟨(show Bx (w3.alloc (.cells #[.string ⟨#[]⟩, .string ⟨#[]⟩] 51)).drew w3.heap.size _ _ from Bx.new w3 _ _).below hb, ?_⟩
  exact bt (below_new w3 _) ⟨hb.os, hb.tape, hb.output, hb.size, hb.block⟩
theorem box_next (w3 w4 : World) (hb : Below w3.drew.heap.size w3.drew w4) : Below w3.heap.size w3 w4 := ⟨hb.os, hb.tape, hb.output, hb.size, hb.block⟩

theorem g_far {w w' : World} {row : Option Nat} (h : w.grownBy w' row) {g : Nat} (hg : w.heap.size ≤ g) (j : Nat) (u : Value) : w.grownBy (w'.setCell ⟨g, j, none⟩ u) row := by
  have hs := g_set w' g j u
  refine ⟨hs.os.trans h.os, hs.tape.trans h.tape, hs.output.trans h.output, Nat.le_trans h.size hs.size, fun i hi hne => ?_⟩
  exact (hs.block i (Nat.lt_of_lt_of_le hi h.size) (by simp; omega)).trans (h.block i hi hne)

def Beg (w wx : World) (b m g0 : Nat) (s : ByteArray) (v : Value) (x : ByteArray) (u : Value) : Prop :=
  ∃ g1, u = .pointer (some ⟨g1, 0, none⟩) ∧ w.heap.size ≤ g1 ∧ g1 ≠ b ∧ g1 ≠ g0 ∧ Bx wx g1 x ⟨#[]⟩ ∧ Bx wx g0 ⟨#[]⟩ ⟨#[]⟩ ∧ Rc wx b s m v ∧ w.grownBy wx (some b) ∧ Tab wx
theorem beg_after {w w3 w4 : World} {b m g0 : Nat} {s : ByteArray} {v : Value} (x : ByteArray) (hb : Below w3.heap.size w3 w4) (hx : Bx w3 g0 ⟨#[]⟩ ⟨#[]⟩) (h : Rc w3 b s m v) (hg : w.grownBy w3 (some b)) (hT : Tab w3) :
    Beg w (w4.alloc (.cells #[.string x, .string ⟨#[]⟩] 51)) b m g0 s v x (.pointer (some ⟨w4.heap.size, 0, none⟩)) := by
  have hz := hb.size
  have hz2 := hg.size
  have h1 := h.lt
  have h2 := hx.lt
  have hb2 : Below w3.heap.size w3 (w4.alloc (.cells #[.string x, .string ⟨#[]⟩] 51)) := bt hb (below_new w4 _)
  exact ⟨_, rfl, by omega, by omega, by omega, Bx.new w4 _ _, hx.below hb2, h.below hb2, g_below hg hb2, hT.below hb2⟩
theorem beg_first {w w3 w4 : World} {b m g0 : Nat} {s : ByteArray} {v : Value} (x : ByteArray) (hb : Below w3.heap.size w3 w4) (hx : Bx w3 g0 ⟨#[]⟩ ⟨#[]⟩) (h : Rc w3 b s m v) (hg : w.grownBy w3 (some b)) (hT : Tab w3) (hy : Bx w4 w3.heap.size ⟨#[]⟩ ⟨#[]⟩) :
    Beg w ((w4.setCell ⟨w3.heap.size, 0, none⟩ (.string x)).setCell ⟨w3.heap.size, 1, none⟩ (.string ⟨#[]⟩)) b m g0 s v x (.pointer (some ⟨w3.heap.size, 0, none⟩)) := by
  have hz := hb.size
  have hz2 := hg.size
  have h1 := h.lt
  have h2 := hx.lt
  have hb2 : Below w3.heap.size w3 ((w4.setCell ⟨w3.heap.size, 0, none⟩ (.string x)).setCell ⟨w3.heap.size, 1, none⟩ (.string ⟨#[]⟩)) := (hb.setCell (Nat.le_refl _) _).setCell (Nat.le_refl _) _
  exact ⟨_, rfl, by omega, by omega, by omega, (hy.set0 x).set1 _, hx.below hb2, h.below hb2, g_below hg hb2, hT.below hb2⟩

set_option maxHeartbeats 4000000 in
theorem attr_any (b k : Nat) (s : ByteArray) (v : Value) (w : World) (h : Rc w b s k v) (hk : k < s.size) (hs : s.size ≤ 140737488351232) (hT : Tab w) (hb0 : 0 < b) :
    Calls Tryz.prog 244 #[rp b] w fun e w' => e = .returned (.agg #[.string (attr s[k] ((L s).drop (k + 1))).1.name, .string (attr s[k] ((L s).drop (k + 1))).1.value]) ∧ ∃ m, m ≤ s.size ∧ (L s).drop m = (attr s[k] ((L s).drop (k + 1))).2 ∧ Rc w' b s m v ∧ w.grownBy w' (some b) := by
  have hs' : s.size ≤ 140737488355328 := by omega
  have hbx : Bx (w.alloc (.cells #[.string ⟨#[]⟩, .string ⟨#[]⟩] 51)) w.heap.size ⟨#[]⟩ ⟨#[]⟩ := Bx.new w _ _
  have h1 : Rc (w.alloc (.cells #[.string ⟨#[]⟩, .string ⟨#[]⟩] 51)) b s k v := h.below (below_new w _)
  have hg1 : w.grownBy (w.alloc (.cells #[.string ⟨#[]⟩, .string ⟨#[]⟩] 51)) (some b) := g_alloc w _ _
  have hne : w.heap.size ≠ b := by have := h.lt; omega
  have c1 := h1.c1; have f1 := h1.f 1
  have HX := Lib.hid hbx; have H1 := Lib.hid h1; have HG1 := Lib.hid hg1; clear hbx h1 hg1
  go_enter Tryz.func244, Tryz.ntmps244
  go_wp2_with fail
  refine (upTo_ea b (k + 1) s v _ (H1.out.set1 (k + 1)) (by omega) hs').mono ?_
  rintro e w3 ⟨rfl, m, hm, hd3, h3, hg3⟩
  have hx3 := (HX.out.other hne (j := 1) _).kept hg3 hne
  have hg3' := HG1.out.trans ((g_set _ b 1 _).trans hg3)
  clear hg3 HX H1 HG1 c1 f1 h
  have hT3 := tab_kept hT hg3' hb0
  obtain ⟨g0, hg0⟩ : ∃ g0, w.heap.size = g0 := ⟨_, rfl⟩
  rw [hg0] at hx3 hne ⊢
  obtain ⟨hkm, hex⟩ := span_one hk hm hd3
  have c0 := h3.c0; have c1 := h3.c1
  have HX := Lib.hid hx3; have H3 := Lib.hid h3; have HG := Lib.hid hg3'; have HD3 := Lib.hid hd3; have HE := Lib.hid hex; have HT3 := Lib.hid hT3; have HG0 := Lib.hid hg0; clear hx3 h3 hg3' hd3 hex hT3 hg0
  have i0 : (0 : Int) ≤ (k : Int) := by omega
  have i1 : (k : Int) ≤ (m : Int) := by omega
  have i2 : (m : Int) ≤ (s.size : Int) := by omega
  have i3 : (0 : Int) ≤ (m : Int) := by omega
  go_upto_region 4 with (fail)
  go_cut [4] from 18 to 29 (fun s4 wx => Beg w wx b m g0 s v (B (lowL (L (s.extract k m)))) s4)
  case first =>
    have hlb := H3.out.lt
    have en0 := World.new_ne w3 _ c0
    have en1 := World.new_ne w3 _ c1
    have hsx : (s.extract k m).size ≤ 140737488355328 := Nat.le_trans (size_extract _ _ _) hs'
    go_region_held3 (fun w' => w'.cell? ⟨b, 0, none⟩ = some (.string s) ∧ w'.cell? ⟨b, 1, none⟩ = some (.int .i64 m)) (first | exact ⟨d0, d1⟩ | exact ⟨c0, c1⟩ | go_keep) (first
      | (go_at_call 216; refine (lower_any _ (w3.alloc (.cells #[.string ⟨#[]⟩, .string ⟨#[]⟩] 51)).drew hsx).mono ?_; rintro e w4 ⟨rfl, hb4⟩; obtain ⟨hx4, hb4'⟩ := box_first w3 w4 hb4; have d0 := (hb4'.cell (p := ⟨b, 0, none⟩) hlb).trans c0; have d1 := (hb4'.cell (p := ⟨b, 1, none⟩) hlb).trans c1; have y0 := hx4.c0; have y1 := hx4.c1; have z0 := hx4.f 0; have z1 := hx4.f 1; have HX4 := Lib.hid hx4; have HB4 := Lib.hid hb4'; clear hx4 hb4' hb4)
      | (go_at_call 216; refine (lower_any _ w3.drew hsx).mono ?_; rintro e w4 ⟨rfl, hb4⟩; have hb4' := box_next w3 w4 hb4; have d0 := (hb4'.cell (p := ⟨b, 0, none⟩) hlb).trans c0; have d1 := (hb4'.cell (p := ⟨b, 1, none⟩) hlb).trans c1; have en2 := World.new_ne w4 _ d0; have en3 := World.new_ne w4 _ d1; have HB4 := Lib.hid hb4'; clear hb4' hb4))
    all_goals go_wp2_with fail
    all_goals go_meet
    · exact beg_after _ HB4.out HX.out H3.out HG.out HT3.out
    · exact beg_first _ HB4.out HX.out H3.out HG.out HT3.out HX4.out
  case rest =>
    obtain ⟨g1, rfl, hn0, hn1, hn2, hx1, hx0, h4, hg4, hT4⟩ := hcut
    clear c0 c1 HX H3 HG HT3
    have he := HE.out
    rw [he] at hx1
    go_wp2_with fail
    refine (skip_any b m s v _ h4 hm hs').mono ?_
    rintro e w5 ⟨rfl, m5, hm5, hd5, h5, hg5⟩
    have hx15 := hx1.kept hg5 hn1; have hx05 := hx0.kept hg5 hne; have hg5' := hg4.trans hg5; have hT5 := tab_kept hT4 hg5 hb0
    clear hx1 hx0 h4 hg4 hT4 hg5
    have hd5' : (L s).drop m5 = trimS (from_ ea ((L s).drop (k + 1))) := by rw [hd5, HD3.out]
    cases h61 : hd 61 ((L s).drop m5) with
    | false =>
      have hv := valued_no h61
      have HV := Lib.hid hv; have H61 := Lib.hid h61; have HD5 := Lib.hid hd5'; clear hv h61 hd5 hd5'
      go_wp2_with fail
      refine (pass1 b m5 s v 61 _ false w5 h5 hm5 hs' rfl H61.out).mono ?_
      rintro e w6 ⟨rfl, h6, hg6⟩
      have hx16 := hx15.kept hg6 hn1; have hx06 := hx05.kept hg6 hne
      have k0 := hx16.c0; have k1 := hx16.c1; have r0 := hx06.c0; have r1 := hx06.c1; have q0 := hx06.f 0; have q1 := hx06.f 1
      have HX0 := Lib.hid hx06; have H6 := Lib.hid h6; have HG6 := Lib.hid (hg5'.trans hg6)
      clear hx15 hx05 hx16 hx06 hg5' hg6 h5 h6 hT5
      go_wp2
      refine bodyPost_ret (v := .agg #[.string (B (lowL (s[k] :: upTo ea ((L s).drop (k + 1))))), .string ⟨#[]⟩]) ?_ rfl ⟨?_, m5, hm5, ?_, (H6.out.other hne _).other hne _, ?_⟩
      · have hf := (HX0.out.set0 (B (lowL (s[k] :: upTo ea ((L s).drop (k + 1)))))).set1 ⟨#[]⟩
        have z0 := hf.c0; have z1 := hf.c1
        simp [results, Tryz.results244, go_sem, z0, z1]
      · rw [attr_eq, ← HD5.out, HV.out]; rfl
      · rw [attr_eq, ← HD5.out, HV.out]
      · exact g_far (g_far HG6.out (by rw [HG0.out]; exact Nat.le_refl _) _ _) (by rw [HG0.out]; exact Nat.le_refl _) _ _
    | true =>
      have hv := valued_yes h61
      have hdr := hd_drop hm5 h61
      rw [if_pos rfl] at hdr
      have HV := Lib.hid hv; have H61 := Lib.hid h61; have HD5 := Lib.hid hd5'; have HDR := Lib.hid hdr; clear hv h61 hd5 hd5' hdr
      go_wp2_with fail
      refine (pass1 b m5 s v 61 _ true w5 h5 hm5 hs' rfl H61.out).mono ?_
      rintro e w6 ⟨rfl, h6, hg6⟩
      have hx16 := hx15.kept hg6 hn1; have hx06 := hx05.kept hg6 hne; have hg6' := hg5'.trans hg6; have hT6 := tab_kept hT5 hg6 hb0
      clear hx15 hx05 hg5' hg6 h5 hT5
      go_wp2_with fail
      refine (skip_any b _ s v w6 h6 HDR.out.1 hs').mono ?_
      rintro e w7 ⟨rfl, m7, hm7, hd7, h7, hg7⟩
      have hx17 := hx16.kept hg7 hn1; have hx07 := hx06.kept hg7 hne; have hg7' := hg6'.trans hg7; have hT7 := tab_kept hT6 hg7 hb0
      have HD7 := Lib.hid hd7
      clear hx16 hx06 hg6' hg7 h6 hT6 hd7
      go_wp2_with fail
      refine (value_any b _ s v w7 h7 hm7 hs).mono ?_
      rintro e w8 ⟨rfl, m8, hm8, hd8, h8, hg8⟩
      have hx18 := hx17.kept hg8 hn1; have hx08 := hx07.kept hg8 hne; have hg8' := hg7'.trans hg8; have hT8 := tab_kept hT7 hg8 hb0
      have HD8 := Lib.hid hd8
      clear hx17 hx07 hg7' hg8 h7 hT7 hd8
      go_wp2_with fail
      have hvs : (B (value ((L s).drop m7)).1).size ≤ 140737488351232 := by
        rw [size_B]
        have := len_value1 ((L s).drop m7)
        rw [List.length_drop, size_L] at this
        omega
      refine (Re.decode_any _ w8 hT8 hvs).mono ?_
      rintro e w9 ⟨rfl, hb9⟩
      have hx19 := hx18.below hb9; have hx09 := hx08.below hb9
      have k0 := hx19.c0; have k1 := hx19.c1; have r0 := hx09.c0; have r1 := hx09.c1; have q0 := hx09.f 0; have q1 := hx09.f 1; have p1 := hx19.f 1
      have hn2' : g0 ≠ g1 := fun e => hn2 e.symm
      have HX1 := Lib.hid hx19; have HX0 := Lib.hid hx09; have H9 := Lib.hid (h8.below hb9); have HG9 := Lib.hid (g_below hg8' hb9)
      clear hx18 hx08 hx19 hx09 hg8' hb9 h8 hT8
      go_wp2
      refine bodyPost_ret (v := .agg #[.string (B (lowL (s[k] :: upTo ea ((L s).drop (k + 1))))), .string (B (dec (L (B (value ((L s).drop m7)).1))))]) ?_ rfl ⟨?_, m8, hm8, ?_, ((H9.out.other hn1 _).other hne _).other hne _, ?_⟩
      · have hf := ((HX0.out.other hn2' (b := g1) (j := 1) (.string (B (dec (L (B (value ((L s).drop m7)).1)))))).set0 (B (lowL (s[k] :: upTo ea ((L s).drop (k + 1)))))).set1 (B (dec (L (B (value ((L s).drop m7)).1))))
        have z0 := hf.c0; have z1 := hf.c1
        simp [results, Tryz.results244, go_sem, z0, z1]
      · rw [attr_eq, ← HD5.out, HV.out, ← HDR.out.2, ← HD7.out, L_B]
      · rw [attr_eq, ← HD5.out, HV.out, ← HDR.out.2, ← HD7.out]; exact HD8.out
      · exact g_far (g_far (g_far HG9.out hn0 _ _) (by rw [HG0.out]; exact Nat.le_refl _) _ _) (by rw [HG0.out]; exact Nat.le_refl _) _ _

end Go.Proofs.YtgjlfcamgkeibaaGreatDoor.To

namespace Go.Proofs.YtgjlfcamgkeibaaGreatDoor.To
set_option maxRecDepth 100000
set_option linter.unusedSimpArgs false
set_option linter.unusedVariables false
open Go.RowKit Ba
open Ro (At acells len_acells below_new Sh Ra acells_one info_attr)
def Aw (N : Nat) (w : World) (v : Value) (l : List At) : Prop := w.ownsRow N 51 2 v l.length (l.flatMap acells) ∧ Sh l
theorem Aw.nil (N : Nat) (w : World) : Aw N w (.slice none 0 0) [] := ⟨World.ownsRow_nil w N _ 2, fun _ h => by simp at h⟩
theorem Aw.ne {N b : Nat} {w : World} {v : Value} {l : List At} (h : Aw N w v l) {cs : Array Value} {t : TypeId} {fr : Nat × Nat} (hb : w.heap[b]? = some (.cells cs t fr)) (ht : t ≠ 51) : v.ownBlock ≠ some b := by
  rcases h.1.2 with ⟨rfl, _⟩ | ⟨g, cap, cur, rfl, _, hh, _⟩
  · simp [Value.ownBlock]
  · intro e
    have e : g = b := by simpa [Value.ownBlock] using e
    subst e
    rw [hb] at hh
    injection hh with hh
    injection hh with _ h2
    exact ht h2
theorem Aw.low {N b : Nat} {w : World} {v : Value} {l : List At} (h : Aw N w v l) (hb : b < N) : v.ownBlock ≠ some b := fun e => by
  have := (World.ownsRow.lt h.1 b e).1
  omega
theorem Aw.kept {N : Nat} {w w' : World} {v : Value} {l : List At} {row : Option Nat} (h : Aw N w v l) (hg : w.grownBy w' row) (hne : v.ownBlock = none ∨ v.ownBlock ≠ row) : Aw N w' v l := ⟨World.ownsRow.kept h.1 hg hne, h.2⟩
theorem Aw.alloc {N : Nat} {w : World} {v : Value} {l : List At} (h : Aw N w v l) (o : Obj) : Aw N (w.alloc o) v l := ⟨World.ownsRow.alloc h.1 o, h.2⟩
theorem Aw.form {N : Nat} {w : World} {v : Value} {l : List At} (h : Aw N w v l) : ∃ A c, v = .slice A l.length c := by
  rcases h.1.2 with ⟨hv, hl⟩ | ⟨g, cap, cur, hv, _⟩
  · exact ⟨none, 0, by rw [hl]; exact hv⟩
  · exact ⟨_, _, hv⟩

theorem attr_cells_new (w : World) (x : At) : ∀ j u, (acells x)[j]? = some u → (w.alloc (.cells #[.string x.name, .string x.value] 51)).cell? ((⟨w.heap.size, 0, none⟩ : Addr).add j) = some u := fun j u hu => by
  rw [WideShapes.add_plain, Nat.zero_add, World.cell?_alloc_mark]
  match j with
  | 0 => exact hu
  | 1 => exact hu
  | j + 2 => simp [acells] at hu
theorem app_attr {ops : Array Oper} {rest : List Oper} {o : Oper} {a : Act} {Q : Exit → Act → World → Prop} (w : World) (hgd : o.guard = none) (s x : Operand)
    (ho : o.op = .call { callee := .builtin .append, args := #[s, x], argTypes := #[45, 45] })
    (N : Nat) (v : Value) (l : List At) (y : At) (hs : a.eval s = v) (hown : Aw N w v l) (hy : y.name.size ≤ maxLen) (g : Nat) (hgz : g = w.heap.size) (hx : a.eval x = .slice (some ⟨g, 0, none⟩) 1 1)
    (hl : l.length ≤ 4000000000) (hN : N ≤ w.heap.size)
    (h : ∀ v' w', Aw N w' v' (l ++ [y]) → w.grownBy w' v.ownBlock → wpList Tryz.prog ops Q rest (a.put o.dst v') w') :
    wpList Tryz.prog ops Q (o :: rest) a (w.alloc (.cells #[.string y.name, .string y.value] 51)) := by
  subst hgz
  obtain ⟨i0, hi, hz0, hz1, hz2⟩ := info_parts info_attr
  have hown' : Aw N (w.alloc (.cells #[.string y.name, .string y.value] 51)) v l := hown.alloc _
  have hsz : (w.alloc (.cells #[.string y.name, .string y.value] 51)).heap.size = w.heap.size + 1 := by simp
  refine wpList_append_own _ hgd s x 45 ho N 51 i0 _ 2 32 Tryz.underlying45 hi hz0 hz1 hz2 rfl (by decide) v l.length (l.flatMap acells) hs hown'.1 ⟨w.heap.size, 0, none⟩ 1 1 (acells y) hx rfl (attr_cells_new w y) (by have := acells_one [y]; simpa using this) (by unfold maxLen; omega) (by omega) (by omega) ?_
  intro v' w' ho2 hg2 _
  refine h v' w' ⟨?_, fun z hz => ?_⟩ ((World.grownBy_alloc w _ _).trans hg2)
  · rw [List.length_append, List.flatMap_append]
    simpa using ho2
  · rcases List.mem_append.1 hz with hz | hz
    · exact hown.2 z hz
    · rw [List.mem_singleton.1 hz]; exact hy

end Go.Proofs.YtgjlfcamgkeibaaGreatDoor.To
