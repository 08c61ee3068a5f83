/-
  Walks of stage 10: Handler, Nav.
  fold.Space.
  boltingref02.Space.
  Walks of stage 2, for later stages: fold.lowerByte, Letter, Lower, Same, Trim, boltingref02.Letter, Lower, Trim.
  Walks of stage 9: link.Strip.
  Walks of stage 9: link.digit, marked; boltingref09.digit.
  Walks of stage 9: link.Percent, boltingref09.Percent.
  Walks of stage 9: link.divided (with its closure), Scheme, Script.
  Walk of stage 9: boltinglaw09.fixed returns true; the contracts of link in the form that the laws use, each answer named.
  Walks of stage 10: Handler, Sink, Element, Attr.
  risk.Element.
  Each string that a statement's row reads is within the reach.
  What a statement's row says of the sizes of strings that lie within slices of structs: each is no greater than the reach.
  Walks of stage 10: Element, Attr, safeElement, Safe.
  Walks of stage 9's reference: Strip, colon, Scheme, Source.
  Walks of stage 10: the reference's Handler, plain, pair, Nav, Sink, Attr.
  Attributes of the call's own; append of one.
  Walks of stage 13: the attributes that are kept.
  Walks of stage 13: what becomes of a row.
  Stage 13: rows of the call's own whose attributes are its own; blocks of a type; an array of numbers in a block.
-/
import Derived.Test.YtdjkeakagmgfgaaCk03
import Derived.Test.YtdjkeakagmgfgaaCk02
import Derived.DeepKeys5
import Derived.Deep.QuietTactic
import Derived.BigQuiet
import Derived.Test.YtdjkeakagmgfgaaCk01
import Derived.Lib.ConvBytes
import Derived.Deep.CutBlock
import Derived.Deep.DeepCutAuto
import Derived.Deep.RegionLaw
import Derived.Laws.BitsAllLaws
import Derived.Deep.AppendLies
import Derived.IntWalk
import Derived.RangeFuncRecord
import Derived.Deep.RegionHeld3
import Derived.ChangeSame
import Derived.ProofKit
import Derived.Carry
import Derived.SizedLaws
import Derived.OwnWalk
namespace Go.Proofs.Ytdjkeakagmgfgaa.Rk
set_option maxRecDepth 100000
set_option linter.unusedVariables false
set_option linter.unusedSimpArgs false
open Go.RowKit Go.Maps Ba Fm Lk Ml
theorem lawPair : Keyed Try.prog 98 := Keyed.of_law (deep_law_gate Ro.laidOut (of_decide_eq_true (by kernel_rfl)) (of_decide_eq_true (by kernel_rfl)) (by kernel_rfl) (by kernel_rfl))
theorem key_pair {e a : ByteArray} (he : e.size ≤ maxLen) (ha : a.size ≤ maxLen) : ∃ x, keyOf Try.prog 98 (pairV e a) = some x := by
  have h1 : Try.prog.keyType 98 = true := by kernel_rfl
  have h2 : (pairV e a).formed Try.prog 98 = true := by kernel_rfl
  have h4 : ∃ n, Try.prog.types.size + 1 = n + 2 := ⟨_, rfl⟩
  obtain ⟨n, hn⟩ := h4
  have h3 : Try.prog.keyLits (Try.prog.types.size + 1) 98 (pairV e a).cells.toList = some [.string e.data.toList, .string a.data.toList] := by
    rw [hn]
    have e0 : (pairV e a).cells.toList = [.string e, .string a] := rfl
    have e1 : Try.prog.cellsOf 98 = 2 := by kernel_rfl
    have e2 : Try.prog.cellsOf 9 = 1 := by kernel_rfl
    rw [e0]
    simp [Program.keyLits, Try.underlying98, Try.underlying9, e1, e2, he, ha]
  unfold keyOf
  simp only [Try.underlying98, h1, h2, h3, Bool.and_self, if_true, Option.map_some]
  exact ⟨_, rfl⟩

theorem leads_small : ∀ p ∈ leadsL, p.1.size ≤ maxLen ∧ p.2.size ≤ maxLen := by
  have h : (leadsL.all fun p => decide (p.1.size ≤ 20) && decide (p.2.size ≤ 20)) = true := by decide +kernel
  intro p hp
  have := List.all_eq_true.1 h p hp
  rw [Bool.and_eq_true, decide_eq_true_iff, decide_eq_true_iff] at this
  unfold maxLen
  omega
def unitV : Value := .agg #[]
def navJobs (b : Nat) : List Job := .mk :: (leadsL.flatMap fun p => [.val (pairV p.1 p.2), .val unitV, .ins (pairV p.1 p.2) unitV]) ++ [.val (.map (some b)), .val (.map (some b))]
theorem ent_nav (b : Nat) : (navJobs b).filterMap ent = leadsL.map fun p => (p.1, p.2, unitV) := rfl

set_option maxRecDepth 100000 in
theorem nav_any (e a : ByteArray) (he : e.size ≤ maxLen) (ha : a.size ≤ maxLen) (w : World) :
    Calls Try.prog 70 #[.string e, .string a] w fun r w' => r = .returned (.bool (navB e a)) ∧ Below w.heap.size w w' := by
  go_enter Try.func70, Try.ntmps70
  go_wp2
  refine region_pairs (l := navJobs w.heap.size) (List.toArray (.string e :: .string a :: undef :: undef :: .bool false :: .map (some w.heap.size) :: undef :: undef :: .map (some w.heap.size) :: .agg #[.string ⟨#[97]⟩, .string ⟨#[104, 114, 101, 102]⟩] :: .agg #[] :: .agg #[.string ⟨#[97, 114, 101, 97]⟩, .string ⟨#[104, 114, 101, 102]⟩] :: .agg #[] :: .agg #[.string ⟨#[98, 117, 116, 116, 111, 110]⟩, .string ⟨#[102, 111, 114, 109, 97, 99, 116, 105, 111, 110]⟩] :: .agg #[] :: .agg #[.string ⟨#[101, 109, 98, 101, 100]⟩, .string ⟨#[115, 114, 99]⟩] :: .agg #[] :: .agg #[.string ⟨#[102, 111, 114, 109]⟩, .string ⟨#[97, 99, 116, 105, 111, 110]⟩] :: .agg #[] :: .agg #[.string ⟨#[102, 114, 97, 109, 101]⟩, .string ⟨#[115, 114, 99]⟩] :: .agg #[] :: .agg #[.string ⟨#[105, 102, 114, 97, 109, 101]⟩, .string ⟨#[115, 114, 99]⟩] :: .agg #[] :: .agg #[.string ⟨#[105, 110, 112, 117, 116]⟩, .string ⟨#[102, 111, 114, 109, 97, 99, 116, 105, 111, 110]⟩] :: .agg #[] :: .agg #[.string ⟨#[111, 98, 106, 101, 99, 116]⟩, .string ⟨#[100, 97, 116, 97]⟩] :: .agg #[] :: .map (some w.heap.size) :: undef :: undef :: undef :: undef :: undef :: undef :: undef :: undef :: undef :: [])) (by kernel_rfl) lawPair Try.underlying101 rfl (by kernel_rfl) ?_ ?_ (by kernel_rfl) ?_
  · refine ⟨rfl, fun a w _ => ?_, fun a w _ => ?_, does_ins 0 1 2 rfl rfl rfl (by simp) (by simp) (by simp) rfl rfl rfl rfl rfl rfl, fun a w _ => ?_, fun a w _ => ?_, does_ins 0 4 5 rfl rfl rfl (by simp) (by simp) (by simp) rfl rfl rfl rfl rfl rfl, fun a w _ => ?_, fun a w _ => ?_, does_ins 0 7 8 rfl rfl rfl (by simp) (by simp) (by simp) rfl rfl rfl rfl rfl rfl, fun a w _ => ?_, fun a w _ => ?_, does_ins 0 10 11 rfl rfl rfl (by simp) (by simp) (by simp) rfl rfl rfl rfl rfl rfl, fun a w _ => ?_, fun a w _ => ?_, does_ins 0 13 14 rfl rfl rfl (by simp) (by simp) (by simp) rfl rfl rfl rfl rfl rfl, fun a w _ => ?_, fun a w _ => ?_, does_ins 0 16 17 rfl rfl rfl (by simp) (by simp) (by simp) rfl rfl rfl rfl rfl rfl, fun a w _ => ?_, fun a w _ => ?_, does_ins 0 19 20 rfl rfl rfl (by simp) (by simp) (by simp) rfl rfl rfl rfl rfl rfl, fun a w _ => ?_, fun a w _ => ?_, does_ins 0 22 23 rfl rfl rfl (by simp) (by simp) (by simp) rfl rfl rfl rfl rfl rfl, fun a w _ => ?_, fun a w _ => ?_, does_ins 0 25 26 rfl rfl rfl (by simp) (by simp) (by simp) rfl rfl rfl rfl rfl rfl, does_move 0 (.inl rfl) (by simp) rfl rfl, does_move 28 (.inr rfl) (by simp) rfl rfl, trivial⟩
    all_goals (go_simp; try rfl)
  · intro e' a' v hm
    rw [ent_nav] at hm
    obtain ⟨p, hp, h⟩ := List.mem_map.1 hm
    injection h with h1 h2
    injection h2 with h2 _
    subst h1 h2
    have := leads_small p hp
    exact key_pair this.1 this.2
  · intro w1 hb1 hT
    rw [ent_nav] at hT
    obtain ⟨x, hx⟩ := key_pair he ha
    have hz : (zeroValue 100).run Try.prog w1 = .ok (.agg #[]) w1 := by kernel_rfl
    have hl : (Instr.lookup 101 (.map (some w.heap.size)) (.agg #[.string e, .string a]) true).run Try.prog w1 = .ok (.tuple #[.agg #[], .bool (navB e a)]) w1 := by
      rcases hT.look lawPair Try.underlying101 hz hx with ⟨h1, h2⟩ | ⟨v, ⟨e', a', h2, h3⟩, h1⟩
      · have : navB e a = false := by
          rw [← Bool.not_eq_true]
          intro h
          exact h2 unitV ⟨e, a, rfl, List.mem_map.2 ⟨_, pair_mem.1 h, rfl⟩⟩
        rw [this]
        exact h1
      · obtain ⟨rfl, rfl⟩ := pairV_inj h2
        obtain ⟨p, hp, h4⟩ := List.mem_map.1 h3
        injection h4 with h5 h6
        injection h6 with h6 h7
        have : navB e a = true := pair_mem.2 (by rw [← h5, ← h6]; exact hp)
        rw [this]
        rw [← h7] at h1
        exact h1
    clear hT hx hz
    go_wp2
    go_ret
    exact ⟨rfl, ((Below.refl _ _).drew.trans hb1).alloc hb1.size _⟩
end Go.Proofs.Ytdjkeakagmgfgaa.Rk

namespace Go.Proofs.Ytdjkeakagmgfgaa.Fo
set_option maxRecDepth 100000
set_option linter.unusedSimpArgs false
set_option linter.unusedVariables false
open Go.RowKit Ba Fm
theorem space_any (c : UInt8) (w : World) :
    Calls Try.prog 115 #[.int .u8 c.toNat] w fun e w' => e = .returned (.bool (sp c)) ∧ w = w' := by
  have e9 : ((c.toNat : Int) == 9) = (c == 9) := u8_eq (b := 9)
  have e10 : ((c.toNat : Int) == 10) = (c == 10) := u8_eq (b := 10)
  have e12 : ((c.toNat : Int) == 12) = (c == 12) := u8_eq (b := 12)
  have e13 : ((c.toNat : Int) == 13) = (c == 13) := u8_eq (b := 13)
  have e32 : ((c.toNat : Int) == 32) = (c == 32) := u8_eq (b := 32)
  cases h9 : (c == 9) <;> cases h10 : (c == 10) <;> cases h12 : (c == 12) <;> cases h13 : (c == 13) <;> cases h32 : (c == 32)
  all_goals
    rw [h9] at e9
    rw [h10] at e10
    rw [h12] at e12
    rw [h13] at e13
    rw [h32] at e32
    have H9 := Lib.hid h9; have H10 := Lib.hid h10; have H12 := Lib.hid h12; have H13 := Lib.hid h13; have H32 := Lib.hid h32
    clear h9 h10 h12 h13 h32
    go_enter Try.func115, Try.ntmps115
    go_wp2
    go_ret
    exact ⟨ret_bool (by unfold sp; rw [H9.out, H10.out, H12.out, H13.out, H32.out]; rfl), rfl⟩

end Go.Proofs.Ytdjkeakagmgfgaa.Fo

namespace Go.Proofs.Ytdjkeakagmgfgaa.Fo
set_option maxRecDepth 100000
set_option linter.unusedSimpArgs false
set_option linter.unusedVariables false
open Go.RowKit Ba Fm
end Go.Proofs.Ytdjkeakagmgfgaa.Fo

namespace Go.Proofs.Ytdjkeakagmgfgaa.Fo
set_option maxRecDepth 100000
set_option linter.unusedSimpArgs false
set_option linter.unusedVariables false
open Go.RowKit Ba Fm

theorem lowerByte_any (c : UInt8) (w : World) :
    Calls Try.prog 119 #[.int .u8 c.toNat] w fun e w' => e = .returned (.int .u8 (low c).toNat) ∧ w = w' := by
  have hc := c.toNat_lt
  by_cases h1 : 65 ≤ c.toNat
  · by_cases h2 : c.toNat ≤ 90
    · have hl : ((low c).toNat : Int) = c.toNat + 32 := by
        unfold low
        rw [if_pos ⟨UInt8.le_iff_toNat_le.2 h1, UInt8.le_iff_toNat_le.2 h2⟩, UInt8.toNat_add]
        simp
        omega
      have HL := Lib.hid hl; clear hl
      go_enter Try.func119, Try.ntmps119
      go_wp2
      go_ret
      exact ⟨ret_int (by rw [HL.out]; omega), rfl⟩
    · have hl : low c = c := by
        unfold low
        rw [if_neg]
        rintro ⟨_, h⟩
        exact h2 (UInt8.le_iff_toNat_le.1 h)
      have HL := Lib.hid hl; clear hl
      go_enter Try.func119, Try.ntmps119
      go_wp2
      go_ret
      exact ⟨ret_int (by rw [HL.out]), rfl⟩
  · have hl : low c = c := by
      unfold low
      rw [if_neg]
      rintro ⟨h, _⟩
      exact h1 (UInt8.le_iff_toNat_le.1 h)
    have HL := Lib.hid hl; clear hl
    go_enter Try.func119, Try.ntmps119
    go_wp2
    go_ret
    exact ⟨ret_int (by rw [HL.out]), rfl⟩

theorem letter_any (c : UInt8) (w : World) :
    Calls Try.prog 117 #[.int .u8 c.toNat] w fun e w' => e = .returned (.bool (lr c)) ∧ w = w' := by
  have hc := c.toNat_lt
  have hl := (low c).toNat_lt
  have hv : lr c = (decide ((97 : Int) ≤ (low c).toNat) && decide (((low c).toNat : Int) ≤ 122)) := by
    have hlow : ((low c).toNat : Int) = if 65 ≤ c.toNat ∧ c.toNat ≤ 90 then c.toNat + 32 else c.toNat := by
      unfold low
      have e1 : (65 ≤ c ∧ c ≤ 90) ↔ (65 ≤ c.toNat ∧ c.toNat ≤ 90) := by rw [UInt8.le_iff_toNat_le, UInt8.le_iff_toNat_le]; exact Iff.rfl
      by_cases h : 65 ≤ c.toNat ∧ c.toNat ≤ 90
      · rw [if_pos (e1.2 h), if_pos h, UInt8.toNat_add]; simp; omega
      · rw [if_neg (fun q => h (e1.1 q)), if_neg h]
    unfold lr
    rw [hlow, Bool.eq_iff_iff]
    simp only [Bool.or_eq_true, Bool.and_eq_true, decide_eq_true_eq, UInt8.le_iff_toNat_le]
    have e65 : (65 : UInt8).toNat = 65 := rfl
    have e90 : (90 : UInt8).toNat = 90 := rfl
    have e97 : (97 : UInt8).toNat = 97 := rfl
    have e122 : (122 : UInt8).toNat = 122 := rfl
    rw [e65, e90, e97, e122]
    split <;> omega
  have HV := Lib.hid hv; clear hv hc
  by_cases h1 : (97 : Int) ≤ (low c).toNat
  · by_cases h2 : ((low c).toNat : Int) ≤ 122
    · go_enter Try.func117, Try.ntmps117
      go_wp2_with (go_at_call 119; refine (lowerByte_any c _).mono ?_; rintro e w' ⟨rfl, rfl⟩)
      go_ret
      exact ⟨ret_bool (by rw [HV.out]; simp [h1, h2]), rfl⟩
    · go_enter Try.func117, Try.ntmps117
      go_wp2_with (go_at_call 119; refine (lowerByte_any c _).mono ?_; rintro e w' ⟨rfl, rfl⟩)
      go_ret
      exact ⟨ret_bool (by rw [HV.out]; simp [h1, h2]), rfl⟩
  · go_enter Try.func117, Try.ntmps117
    go_wp2_with (go_at_call 119; refine (lowerByte_any c _).mono ?_; rintro e w' ⟨rfl, rfl⟩)
    go_ret
    exact ⟨ret_bool (by rw [HV.out, decide_eq_false (by omega)]; rfl), rfl⟩

set_option maxHeartbeats 1000000 in
theorem lower_any (s : ByteArray) (w : World) (hs : s.size ≤ 140737488355328) :
    Calls Try.prog 118 #[.string s] w fun e w' => e = .returned (.string (B (lowL (L s)))) ∧ Below w.heap.size w w' := by
  obtain ⟨i0, hi, hz0, hz1, hz2⟩ := info_parts info_u8
  go_enter Try.func118, Try.ntmps118
  go_wp2_with (at_make; refine wpList_make_own _ rfl (.const (.int .i64 0)) (.tmp 6) 95 rfl w.heap.size 5 i0 (.int .u8 0) 1 Try.underlying95 hi hz0 hz1 .i64 .i64 _ s.size rfl rfl rfl (by rw [hz2]; omega) (by unfold maxLen; omega) (Nat.le_refl _) ?_; intro w1 hown hgrow)
  have hb0 : Below w.heap.size w w1 := (Below.refl w.heap.size w).grown hgrow (Nat.le_refl _) (by simp)
  have ho0 : OwnB w.heap.size w1 (.slice (some ⟨w.heap.size, 0, none⟩) 0 s.size) [] := hown
  clear hown hgrow
  go_loopw [3, 10] (fun v i wr => ∃ (k : Nat), i = .int .i64 k ∧ k ≤ s.size ∧ OwnB w.heap.size wr v (lowL ((L s).take k)) ∧ Below w.heap.size w wr) (fun _ i _ => s.size - (intOf i).toNat)
  case atStart => exact ⟨0, rfl, Nat.zero_le _, ho0, hb0⟩
  case round =>
    clear ho0 hb0
    obtain ⟨k, rfl, hks, hown, hbel⟩ := hrel
    have hN := hbel.size
    by_cases hp : k < s.size
    · have hlen : (lowL ((L s).take k)).length + 1 ≤ 140737488355328 := by rw [len_lowL, List.length_take, size_L]; omega
      go_wp2_with (first | (go_at_call 119; refine (lowerByte_any s[k] _).mono ?_; rintro e w' ⟨rfl, rfl⟩) | (at_builtin; refine app_byte wr rfl (.tmp 13) (.tmp 18) rfl w.heap.size _ (lowL ((L s).take k)) (low s[k]) rfl hown rfl hlen hN ?_; intro v2 w2 hown2 hk2))
      go_roundw
      case rel =>
        refine ⟨k + 1, by go_num, by omega, ?_, hk2 _ hbel⟩
        rw [take_snoc s k hp, lowL_append]
        exact hown2
      case measure => simp [intOf]; omega
    · have hcv := hown.string
      go_wp2
      go_ret
      refine ⟨ret_str ?_, hbel⟩
      rw [List.take_of_length_le (by rw [size_L]; omega)]

/-- Block g holds these bytes, as a string's conversion lays them. -/
def Raw (w : World) (g : Nat) (l : List UInt8) : Prop := ∃ cs : Array Value, w.heap[g]? = some (.cells cs 5 (cs.size, cs.size + 1)) ∧ l.length ≤ cs.size ∧ ∀ j (h : j < l.length), cs[j]? = some (bc l[j])

theorem Raw.cell {w : World} {g : Nat} {l : List UInt8} (h : Raw w g l) (j : Nat) (hj : j < l.length) : w.cell? ⟨g, j, none⟩ = some (.int .u8 (l[j].toNat : Int)) := by
  obtain ⟨cs, hg, _, hc⟩ := h
  rw [cell_of_row w g j cs _ _ hg, hc j hj]
  rfl
theorem Raw.frozen {w : World} {g : Nat} {l : List UInt8} (h : Raw w g l) (j : Nat) (hj : j < l.length) : w.frozen? ⟨g, j, none⟩ = false := by
  obtain ⟨cs, hg, hl, _⟩ := h
  simp [World.frozen?, hg]
  omega
theorem Raw.set {w : World} {g : Nat} {l : List UInt8} (h : Raw w g l) (j : Nat) (y : UInt8) : Raw (w.setCell ⟨g, j, none⟩ (.int .u8 (y.toNat : Int))) g (l.set j y) := by
  obtain ⟨cs, hg, hl, hc⟩ := h
  refine ⟨cs.setIfInBounds j (.int .u8 (y.toNat : Int)), ?_, by simpa using hl, fun i hi => ?_⟩
  · simp [World.setCell, Array.getElem?_modify, hg]
  · rw [List.length_set] at hi
    rw [Array.getElem?_setIfInBounds, List.getElem_set]
    by_cases hij : j = i
    · subst hij
      simp [bc]
      omega
    · simp [hij, hc i hi]
theorem Raw.string {w : World} {g c : Nat} {l : List UInt8} (h : Raw w g l) : (convert 95 9 (.slice (some ⟨g, 0, none⟩) l.length c)).run Try.prog w = .ok (.string (B l)) w :=
  run_convert_bytes_back w _ _ _ ⟨g, 0, none⟩ c l Try.underlying95 Try.underlying5 Try.underlying9 fun j hj => by
    rw [WideShapes.add_plain, Nat.zero_add]
    exact h.cell j hj
theorem Raw.new (w : World) (s : ByteArray) : Raw (Lib.bytesWorld w 5 s) w.heap.size (L s) := by
  refine ⟨_, Lib.bytesWorld_at_new w _ s, ?_, fun j hj => ?_⟩
  · unfold Lib.bytesCells
    rw [size_L]
    simp
  · rw [size_L] at hj
    simp [Lib.bytesCells, Array.getElem?_append, hj, bc]
end Go.Proofs.Ytdjkeakagmgfgaa.Fo

namespace Go.Proofs.Ytdjkeakagmgfgaa.Lk
set_option maxRecDepth 100000
set_option linter.unusedSimpArgs false
set_option linter.unusedVariables false
open Go.RowKit Ba Fm Fo
theorem edge_of (c : UInt8) : edge c = decide ((c.toNat : Int) ≤ 32) := by
  unfold edge
  rw [Bool.eq_iff_iff, decide_eq_true_eq, decide_eq_true_eq, UInt8.le_iff_toNat_le]
  have e : (32 : UInt8).toNat = 32 := rfl
  rw [e]
  omega
/-- Of a text's piece, cut at the end. -/
theorem piece_cut (s : ByteArray) (k m : Nat) (hk : k < m) (hm : m ≤ s.size) : ((L s).drop k).take (m - k) = ((L s).drop k).take (m - 1 - k) ++ [s[m - 1]'(by omega)] := by
  have e : m - k = (m - 1 - k) + 1 := by omega
  rw [e, List.take_succ_eq_append_getElem (by rw [List.length_drop, size_L]; omega)]
  congr 2
  rw [List.getElem_drop]
  have : k + (m - 1 - k) = m - 1 := by omega
  simp only [this]
  rfl
theorem piece_next (s : ByteArray) (k j : Nat) (hk : k ≤ j) (hj : j < s.size) : ((L s).drop k).take (j + 1 - k) = ((L s).drop k).take (j - k) ++ [s[j]] := by
  have h := piece_cut s k (j + 1) (by omega) (by omega)
  have e : j + 1 - 1 = j := by omega
  simp only [e] at h
  exact h

set_option maxHeartbeats 4000000 in
theorem strip_any (s : ByteArray) (w : World) (hs : s.size ≤ 140737488355328) :
    Calls Try.prog 111 #[.string s] w fun e w' => e = .returned (.string (B (stripL (L s)))) ∧ Below w.heap.size w w' := by
  obtain ⟨i0, hi, hz0, hz1, hz2⟩ := info_parts info_u8
  go_enter Try.func111, Try.ntmps111
  go_upto_block 0 with fail
  go_cut [3] from 9 to 19 (fun sl wx => ∃ k : Nat, sl = .int .i64 k ∧ k ≤ s.size ∧ frontL (L s) = (L s).drop k ∧ wx = w)
  case first =>
    go_wp2
    go_loop [3] (fun i => ∃ k : Nat, i = .int .i64 k ∧ k ≤ s.size ∧ frontL ((L s).drop k) = frontL (L s)) (fun i => s.size - (intOf i).toNat)
    case atStart => exact ⟨0, rfl, Nat.zero_le _, by rw [List.drop_zero]⟩
    case round =>
      obtain ⟨k, rfl, hks, hc⟩ := hrel
      by_cases hp : k < s.size
      · have he := edge_of s[k]
        rw [drop_cons s k hp] at hc
        cases hed : edge s[k] with
        | true =>
          rw [front_yes _ hed] at hc
          rw [hed] at he
          have h32 : (s[k].toNat : Int) ≤ 32 := of_decide_eq_true he.symm
          have HC := Lib.hid hc; clear hc hed he
          go_wp2
          go_round
          case rel => exact ⟨k + 1, by go_num, by omega, HC.out⟩
          case measure => simp [intOf]; omega
        | false =>
          rw [front_no _ hed, ← drop_cons s k hp] at hc
          rw [hed] at he
          have h32 : ¬ (s[k].toNat : Int) ≤ 32 := of_decide_eq_false he.symm
          have h33 : 32 < (s[k].toNat : Int) := by omega
          have HC := Lib.hid hc; clear hc hed he h32
          go_wp2
          go_meet
          exact ⟨k, rfl, hks, HC.out.symm, rfl⟩
      · rw [drop_nil s k hp] at hc
        have hk : frontL (L s) = (L s).drop k := by rw [← hc, drop_nil s k hp]; rfl
        have HC := Lib.hid hk; clear hc hk
        go_wp2
        go_meet
        exact ⟨k, rfl, hks, HC.out, rfl⟩
  case rest =>
  obtain ⟨k, rfl, hk, hf, hwx⟩ := hcut
  have hwx := hwx.symm
  subst hwx
  have HF := Lib.hid hf; clear hf
  go_upto_block 2 with fail
  go_cut [4] from 20 to 31 (fun sl wx => ∃ m : Nat, sl = .int .i64 m ∧ k ≤ m ∧ m ≤ s.size ∧ backL (frontL (L s)) = ((L s).drop k).take (m - k) ∧ wx = w)
  case first =>
    go_wp2
    go_loop [4] (fun i => ∃ m : Nat, i = .int .i64 m ∧ k ≤ m ∧ m ≤ s.size ∧ backL (((L s).drop k).take (m - k)) = backL (frontL (L s))) (fun i => (intOf i).toNat)
    case atStart => exact ⟨s.size, rfl, hk, Nat.le_refl _, by rw [List.take_of_length_le (by rw [List.length_drop, size_L]; omega), HF.out]⟩
    case round =>
      obtain ⟨m, rfl, hkm, hms, hd⟩ := hrel
      by_cases hq : k < m
      · have hm1 : 1 ≤ m := by omega
        obtain ⟨j, rfl⟩ : ∃ j, m = j + 1 := ⟨m - 1, by omega⟩
        have hjs : j < s.size := by omega
        have hcut : ((L s).drop k).take (j + 1 - k) = ((L s).drop k).take (j - k) ++ [s[j]] := piece_cut s k (j + 1) hq hms
        have he := edge_of s[j]
        cases hed : edge s[j] with
        | true =>
          rw [hcut, back_yes _ hed] at hd
          rw [hed] at he
          have h32 : (s[j].toNat : Int) ≤ 32 := of_decide_eq_true he.symm
          have HD := Lib.hid hd; clear hd hed he hcut
          go_wp2
          go_round
          case rel => exact ⟨j, by go_num, by omega, by omega, HD.out⟩
          case measure => simp [intOf]
        | false =>
          rw [hcut, back_no _ hed, ← hcut] at hd
          rw [hed] at he
          have h32 : ¬ (s[j].toNat : Int) ≤ 32 := of_decide_eq_false he.symm
          have h33 : 32 < (s[j].toNat : Int) := by omega
          have HD := Lib.hid hd; clear hd hed he hcut h32
          go_wp2
          go_meet
          exact ⟨j + 1, rfl, hkm, hms, HD.out.symm, rfl⟩
      · obtain rfl : m = k := by omega
        rw [Nat.sub_self, List.take_zero] at hd
        have HD := Lib.hid hd; clear hd
        go_wp2
        go_meet
        exact ⟨m, rfl, Nat.le_refl _, hms, by rw [Nat.sub_self, List.take_zero]; exact HD.out.symm, rfl⟩
  case rest =>
  obtain ⟨m, rfl, hkm, hms, hb, hwx⟩ := hcut
  have hwx := hwx.symm
  subst hwx
  obtain ⟨c, hc⟩ : ∃ c, m - k = c := ⟨_, rfl⟩
  have hsub : (m : Int) - k = (c : Int) := by omega
  have hcs : c ≤ s.size := by omega
  have hfin : stripL (L s) = kept (((L s).drop k).take (m - k)) := by unfold stripL; rw [hb]
  have HFIN := Lib.hid hfin; clear hb hfin hc
  go_wp2_with (at_make; refine wpList_make_own _ rfl (.const (.int .i64 0)) (.tmp 34) 95 rfl w.heap.size 5 i0 (.int .u8 0) 1 Try.underlying95 hi hz0 hz1 .i64 .i64 _ c rfl rfl rfl (by rw [hz2]; omega) (by unfold maxLen; omega) (Nat.le_refl _) ?_; intro w1 hown hgrow)
  have hb0 : Below w.heap.size w w1 := (Below.refl w.heap.size w).grown hgrow (Nat.le_refl _) (by simp)
  have ho0 : OwnB w.heap.size w1 (.slice (some ⟨w.heap.size, 0, none⟩) 0 c) [] := hown
  clear hown hgrow hsub
  go_loopw [5, 6] (fun v i wr => ∃ (j : Nat), i = .int .i64 j ∧ k ≤ j ∧ j ≤ m ∧ OwnB w.heap.size wr v (kept (((L s).drop k).take (j - k))) ∧ Below w.heap.size w wr) (fun _ i _ => m - (intOf i).toNat)
  case atStart => exact ⟨k, rfl, Nat.le_refl _, hkm, by rw [Nat.sub_self, List.take_zero]; exact ho0, hb0⟩
  case round =>
    clear ho0 hb0
    obtain ⟨j, rfl, hkj, hjm, hown, hbel⟩ := hrel
    have hN := hbel.size
    by_cases hp : j < m
    · have hnext := piece_next s k j hkj (by omega)
      have hlen : (kept (((L s).drop k).take (j - k))).length + 1 ≤ 140737488355328 := by
        have := kept_len (((L s).drop k).take (j - k))
        rw [List.length_take] at this
        omega
      have hjs : j < s.size := by omega
      have e9 : ((s[j].toNat : Int) == 9) = (s[j] == 9) := u8_eq (b := 9)
      have e10 : ((s[j].toNat : Int) == 10) = (s[j] == 10) := u8_eq (b := 10)
      have e13 : ((s[j].toNat : Int) == 13) = (s[j] == 13) := u8_eq (b := 13)
      have hkn : kept (((L s).drop k).take (j + 1 - k)) = kept (((L s).drop k).take (j - k)) ++ kept [s[j]] := by rw [hnext, kept_append]
      have HO := Lib.hid hown; have HB := Lib.hid hbel
      clear hown hbel hnext
      cases hin : inn s[j] with
      | true =>
        rw [kept_yes hin, List.append_nil] at hkn
        have HK := Lib.hid hkn; clear hkn
        unfold inn at hin
        cases h9 : s[j] == 9 with
        | true =>
          rw [h9] at e9
          clear h9 hin e10 e13
          go_wp2
          go_roundw
          case rel => exact ⟨j + 1, by go_num, by omega, by omega, by rw [HK.out]; exact HO.out, HB.out⟩
          case measure => simp [intOf]; omega
        | false =>
        cases h10 : s[j] == 10 with
        | true =>
          rw [h9] at e9
          rw [h10] at e10
          clear h9 h10 hin e13
          go_wp2
          go_roundw
          case rel => exact ⟨j + 1, by go_num, by omega, by omega, by rw [HK.out]; exact HO.out, HB.out⟩
          case measure => simp [intOf]; omega
        | false =>
          have h13 : s[j] == 13 := by rw [h9, h10] at hin; simpa using hin
          rw [h9] at e9
          rw [h10] at e10
          rw [h13] at e13
          clear h9 h10 hin h13
          go_wp2
          go_roundw
          case rel => exact ⟨j + 1, by go_num, by omega, by omega, by rw [HK.out]; exact HO.out, HB.out⟩
          case measure => simp [intOf]; omega
      | false =>
        rw [kept_no hin] at hkn
        have HK := Lib.hid hkn; clear hkn
        unfold inn at hin
        simp only [Bool.or_eq_false_iff] at hin
        rw [hin.1.1] at e9
        rw [hin.1.2] at e10
        rw [hin.2] at e13
        clear hin
        go_wp2_with (at_builtin; refine app_byte wr rfl (.tmp 49) (.tmp 53) rfl w.heap.size _ (kept (((L s).drop k).take (j - k))) s[j] rfl HO.out rfl hlen hN ?_; intro v2 w2 hown2 hk2)
        go_roundw
        case rel => exact ⟨j + 1, by go_num, by omega, by omega, by rw [HK.out]; exact hown2, hk2 _ HB.out⟩
        case measure => simp [intOf]; omega
    · obtain rfl : j = m := by omega
      have hcv := hown.string
      have HB := Lib.hid hbel
      clear hown hbel
      go_wp2
      go_ret
      exact ⟨ret_str (by rw [HFIN.out]), HB.out⟩

end Go.Proofs.Ytdjkeakagmgfgaa.Lk

namespace Go.Proofs.Ytdjkeakagmgfgaa.Lk
set_option maxRecDepth 100000
set_option linter.unusedSimpArgs false
set_option linter.unusedVariables false
open Go.RowKit Ba Fm Fo
/-- A digit's number in the reference: below 0 it is none. -/
def rd (c : UInt8) : Int := if hb c = true then (hv c : Int) else -1
end Go.Proofs.Ytdjkeakagmgfgaa.Lk

namespace Go.Proofs.Ytdjkeakagmgfgaa.Lk
set_option maxRecDepth 100000
set_option linter.unusedSimpArgs false
set_option linter.unusedVariables false
open Go.RowKit Ba Fm Fo
end Go.Proofs.Ytdjkeakagmgfgaa.Lk

namespace Go.Proofs.Ytdjkeakagmgfgaa.Lk
set_option maxRecDepth 100000
set_option linter.unusedSimpArgs false
set_option linter.unusedVariables false
open Go.RowKit Ba Fm Fo
theorem oth_of (c : UInt8) : oth c = ((decide ((48 : Int) ≤ c.toNat) && decide ((c.toNat : Int) ≤ 57)) || (c == 43) || (c == 45) || (c == 46)) := by
  unfold oth
  congr 3
  rw [Bool.eq_iff_iff]
  simp only [Bool.and_eq_true, decide_eq_true_eq, UInt8.le_iff_toNat_le]
  have e48 : (48 : UInt8).toNat = 48 := rfl
  have e57 : (57 : UInt8).toNat = 57 := rfl
  rw [e48, e57]
  omega
theorem letter1 (c : UInt8) (w : World) (q : Bool) (h : lr c = q) : Calls Try.prog 117 #[.int .u8 c.toNat] w fun e w' => e = .returned (.bool q) ∧ w = w' := by
  have k := letter_any c w
  rw [h] at k
  exact k

set_option maxHeartbeats 2000000 in
/-- The closure: may the byte at k stand in a scheme there? -/
theorem stands_any (p k : Nat) (s : ByteArray) (w : World) (hk : k < s.size) (hs : s.size ≤ 140737488355328) (hc : w.cell? ⟨p, 0, none⟩ = some (.string s)) (q : Bool) (hq : sch (decide (0 < k)) s[k] = q) :
    Calls Try.prog 116 #[.int .i64 k, .pointer (some ⟨p, 0, none⟩)] w fun e w' => e = .returned (.bool q) ∧ w = w' := by
  have e43 : ((s[k].toNat : Int) == 43) = (s[k] == 43) := u8_eq (b := 43)
  have e45 : ((s[k].toNat : Int) == 45) = (s[k] == 45) := u8_eq (b := 45)
  have e46 : ((s[k].toNat : Int) == 46) = (s[k] == 46) := u8_eq (b := 46)
  unfold sch at hq
  rw [oth_of] at hq
  obtain ⟨l0, hl0⟩ : ∃ l0, lr s[k] = l0 := ⟨_, rfl⟩
  obtain ⟨p0, hp0⟩ : ∃ p0, decide (0 < k) = p0 := ⟨_, rfl⟩
  rw [hl0, hp0] at hq
  have HL := Lib.hid hl0; clear hl0
  cases l0 with
  | true =>
    have HQ := Lib.hid hq; clear hq hp0 e43 e45 e46
    go_enter Try.func116, Try.ntmps116
    go_wp2_with fail
    refine (letter1 s[k] _ _ HL.out).mono ?_
    rintro e w' ⟨rfl, rfl⟩
    go_wp2
    go_ret
    exact ⟨ret_bool (by rw [← HQ.out]; rfl), rfl⟩
  | false =>
    by_cases h48 : (48 : Int) ≤ s[k].toNat <;> by_cases h57 : (s[k].toNat : Int) ≤ 57 <;> cases h43 : (s[k] == 43) <;> cases h45 : (s[k] == 45) <;> cases h46 : (s[k] == 46)
    all_goals
      rw [h43] at e43 hq
      rw [h45] at e45 hq
      rw [h46] at e46 hq
      have hq' : (false || (p0 && ((decide ((48 : Int) ≤ s[k].toNat) && decide ((s[k].toNat : Int) ≤ 57)) || _ || _ || _))) = q := hq
      have HQ := Lib.hid hq'; have H48 := Lib.hid h48; have H57 := Lib.hid h57; have HP0 := Lib.hid hp0
      clear hq hq' h43 h45 h46 hp0
      go_enter Try.func116, Try.ntmps116
      go_wp2_with fail
      refine (letter1 s[k] _ _ HL.out).mono ?_
      rintro e w' ⟨rfl, rfl⟩
      go_wp2
      all_goals go_ret
      all_goals exact ⟨ret_bool (by rw [← HQ.out]; simp [H48.out, H57.out, HP0.out]), rfl⟩

/-- What divided answers. -/
def divV (s : ByteArray) : Option Nat → Value
  | none => .tuple #[.string ⟨#[]⟩, .string ⟨#[]⟩, .bool false]
  | some k => .tuple #[.string (B (lowL ((L s).take k))), .string (s.extract (k + 1) s.size), .bool true]

set_option maxHeartbeats 4000000 in
theorem divided1 (s : ByteArray) (w : World) (hs : s.size ≤ 140737488355328) (o : Option Nat) (ho : colonL (L s) = o) :
    Calls Try.prog 110 #[.string s] w fun e w' => e = .returned (divV s o) ∧ Below w.heap.size w w' := by
  have hmf : ∀ (fn : Fn) (first cap : Array Value) (w : World), (Instr.makeFunc fn first cap).run Try.prog w = .ok (.func fn first cap) w := fun _ _ _ _ => rfl
  obtain ⟨w0, hw0⟩ : ∃ w0, w.alloc (.cells #[.string s] 9) = w0 := ⟨_, rfl⟩
  have hb0 : Below w.heap.size w w0 := by rw [← hw0]; exact (Below.refl _ _).alloc (Nat.le_refl _) _
  have hc0 : w0.cell? ⟨w.heap.size, 0, none⟩ = some (.string s) := by
    rw [← hw0, World.cell?_alloc_at _ _ _ _ (by simp)]; rfl
  have HW := Lib.hid hw0; clear hw0
  have HO := Lib.hid ho; clear ho
  go_enter Try.func110, Try.ntmps110
  go_upto_block 0 with fail
  rw [HW.out]
  go_cut [6] from 8 to 18 (fun sl wx => ∃ k : Nat, sl = .int .i64 k ∧ k ≤ s.size ∧ (st false (L s)).length = k ∧ wx = w0)
  case first =>
    go_wp2
    go_loop [6] (fun i => ∃ k : Nat, i = .int .i64 k ∧ k ≤ s.size ∧ Lk.upTo (L s) k) (fun i => s.size - (intOf i).toNat)
    case atStart => exact ⟨0, rfl, Nat.zero_le _, upTo_zero _⟩
    case round =>
      obtain ⟨k, rfl, hks, hu⟩ := hrel
      by_cases hp : k < s.size
      · have hpl : k < (L s).length := by rw [size_L]; exact hp
        have hg : (L s)[k] = s[k] := rfl
        cases hq : sch (decide (0 < k)) s[k] with
        | true =>
          have HN := Lib.hid (upTo_next hu hpl (by rw [hg]; exact hq)); have HQ := Lib.hid hq; clear hu hq hg
          go_wp2_with fail
          refine (stands_any w.heap.size k s w0 hp hs hc0 true HQ.out).mono ?_
          rintro e w' ⟨rfl, rfl⟩
          go_wp2
          go_round
          case rel => exact ⟨k + 1, by go_num, by omega, HN.out⟩
          case measure => simp [intOf]; omega
        | false =>
          have HN := Lib.hid (upTo_stop hu hpl (by rw [hg]; exact hq)); have HQ := Lib.hid hq; clear hu hq hg
          go_wp2_with fail
          refine (stands_any w.heap.size k s w0 hp hs hc0 false HQ.out).mono ?_
          rintro e w' ⟨rfl, rfl⟩
          go_wp2
          go_meet
          exact ⟨k, rfl, hks, HN.out, rfl⟩
      · have HN := Lib.hid (upTo_end hu (by rw [size_L]; omega)); clear hu
        go_wp2
        go_meet
        exact ⟨k, rfl, hks, HN.out, rfl⟩
  case rest =>
  obtain ⟨k, rfl, hk, hf, hwx⟩ := hcut
  have hwx := hwx.symm
  subst hwx
  have HF := Lib.hid hf; clear hf hmf
  have hno : ∀ d : Bool, ((k : Int) == 0) = d → d = decide (k = 0) := fun d h => by rw [← h, Bool.eq_iff_iff]; simp
  have hne : ∀ d : Bool, ((k : Int) == (s.size : Int)) = d → d = decide (k = s.size) := fun d h => by rw [← h, Bool.eq_iff_iff]; simp; omega
  by_cases h0 : k = 0
  · have ho := colon_not HF.out (.inl h0)
    rw [HO.out] at ho
    subst ho
    subst h0
    clear hno hne
    go_wp2
    go_ret3
    exact ⟨rfl, hb0⟩
  · have e0 : ((k : Int) == 0) = false := by rw [hno _ rfl]; exact decide_eq_false h0
    by_cases hks : k = s.size
    · have e1 : ((k : Int) == (s.size : Int)) = true := by rw [hne _ rfl]; exact decide_eq_true hks
      have ho := colon_not HF.out (.inr (.inl (by rw [size_L]; exact hks)))
      rw [HO.out] at ho
      subst ho
      clear hno hne hks h0
      go_wp2
      go_ret3
      exact ⟨rfl, hb0⟩
    · have e1 : ((k : Int) == (s.size : Int)) = false := by rw [hne _ rfl]; exact decide_eq_false hks
      have hp : k < s.size := by omega
      have e58 : ((s[k].toNat : Int) != 58) = !(s[k] == 58) := by rw [← u8_eq]; rfl
      cases h58 : s[k] == 58 with
      | false =>
        rw [h58] at e58
        have ho := colon_not HF.out (.inr (.inr ⟨by rw [size_L]; exact hp, by show s[k] ≠ 58; simpa using h58⟩))
        rw [HO.out] at ho
        subst ho
        clear h58 hno hne hks h0
        go_wp2
        go_ret3
        exact ⟨rfl, hb0⟩
      | true =>
        rw [h58] at e58
        have ho := colon_stop HF.out (by omega) (by rw [size_L]; exact hp) (by show s[k] = 58; simpa using h58)
        rw [HO.out] at ho
        subst ho
        have y1 : IntKind.i64.wrap ((k : Int) + 1) = (k : Int) + 1 := IntWalk.i64_in _ (by omega)
        have z1 : ((k : Int) + 1).toNat = k + 1 := by omega
        have m1 : (0 : Int) ≤ (k : Int) + 1 := by omega
        have m2 : (k : Int) + 1 ≤ s.size := by omega
        have m3 : (0 : Int) ≤ (k : Int) := by omega
        have m4 : (k : Int) ≤ s.size := by omega
        have hxs : (s.extract 0 k).size ≤ 140737488355328 := Nat.le_trans (size_extract _ _ _) hs
        have hLx : lowL (L (s.extract 0 k)) = lowL ((L s).take k) := by rw [L_extract, List.drop_zero, Nat.sub_zero]
        have HX := Lib.hid hLx
        have hlt : w.heap.size < w0.heap.size := by rw [← HW.out]; simp
        have HC0 := Lib.hid hc0; have HB0 := Lib.hid hb0
        clear h58 hno hne hks h0 hLx hb0
        go_wp2
        go_region_held3 (fun w' => w'.cell? ⟨w.heap.size, 0, none⟩ = some (.string s)) (first | exact c2 | exact HC0.out | go_keep) (first
          | (go_at_call 118; refine (lower_any (s.extract 0 k) _ hxs).mono ?_; rintro e w2 ⟨rfl, b2⟩; have c2 := (b2.cell (p := ⟨w.heap.size, 0, none⟩) hlt).trans HC0.out; have HB2 := Lib.hid b2; clear b2))
        all_goals go_wp2
        all_goals go_ret3
        all_goals exact ⟨by rw [HX.out]; rfl, bt HB0.out (by first | exact HB2.out | exact ⟨HB2.out.os, HB2.out.tape, HB2.out.output, HB2.out.size, HB2.out.block⟩)⟩

/-- What Scheme answers. -/
def schemeV (o : Option (List UInt8)) : Value := .tuple #[.string (B (o.getD [])), .bool o.isSome]
set_option maxHeartbeats 2000000 in
theorem scheme_any (s : ByteArray) (w : World) (hs : s.size ≤ 140737488355328) :
    Calls Try.prog 94 #[.string s] w fun e w' => e = .returned (schemeV (schemeO (L s))) ∧ Below w.heap.size w w' := by
  obtain ⟨t, ht⟩ : ∃ t, B (stripL (L s)) = t := ⟨_, rfl⟩
  have hL : L t = stripL (L s) := by rw [← ht, L_B]
  have hts : t.size ≤ 140737488355328 := by rw [← size_L, hL]; exact Nat.le_trans (strip_len _) (by rw [size_L]; exact hs)
  obtain ⟨o, ho⟩ : ∃ o, colonL (L t) = o := ⟨_, rfl⟩
  have hans : schemeO (L s) = o.map fun k => lowL ((L t).take k) := by unfold schemeO; rw [← hL, ho]
  have HA := Lib.hid hans; have HO := Lib.hid ho; have HT := Lib.hid ht
  clear hans ho hL ht
  go_enter Try.func94, Try.ntmps94
  go_wp2_with fail
  refine (strip_any s w hs).mono ?_
  rw [HT.out]
  rintro e w1 ⟨rfl, hb1⟩
  have HB1 := Lib.hid hb1; clear hb1
  go_wp2_with fail
  refine (divided1 t w1 hts o HO.out).mono ?_
  rintro e w2 ⟨rfl, hb2⟩
  have HB2 := Lib.hid hb2; clear hb2
  cases o with
  | none =>
    unfold divV
    go_wp2
    go_ret2
    exact ⟨by rw [HA.out]; rfl, bt HB1.out HB2.out⟩
  | some k =>
    unfold divV
    go_wp2
    go_ret2
    exact ⟨by rw [HA.out]; rfl, bt HB1.out HB2.out⟩

theorem js_list (l : List UInt8) : ((B (schemeL l)).toList == [106, 97, 118, 97, 115, 99, 114, 105, 112, 116]) = scriptL l := by
  rw [toList_B]
  unfold scriptL
  rw [Bool.eq_iff_iff, beq_iff_eq, decide_eq_true_eq]
  rfl
set_option maxHeartbeats 2000000 in
theorem script_any (s : ByteArray) (w : World) (hs : s.size ≤ 140737488355328) :
    Calls Try.prog 71 #[.string s] w fun e w' => e = .returned (.bool (scriptL (L s))) ∧ Below w.heap.size w w' := by
  obtain ⟨x, hx⟩ : ∃ x, B (schemeL (L s)) = x := ⟨_, rfl⟩
  have hv : schemeV (schemeO (L s)) = .tuple #[.string x, .bool (hasL (L s))] := by rw [← hx]; rfl
  have hj := js_list (L s)
  rw [hx] at hj
  have HJ := Lib.hid hj; have HV := Lib.hid hv
  clear hj hx hv
  go_enter Try.func71, Try.ntmps71
  go_wp2_with fail
  refine (scheme_any s w hs).mono ?_
  rw [HV.out]
  rintro e w1 ⟨rfl, hb1⟩
  go_wp2
  go_ret
  exact ⟨ret_bool (by rw [← HJ.out]), hb1⟩
end Go.Proofs.Ytdjkeakagmgfgaa.Lk

namespace Go.Proofs.Ytdjkeakagmgfgaa.Lk
set_option maxRecDepth 100000
set_option linter.unusedSimpArgs false
set_option linter.unusedVariables false
open Go.RowKit Ba Fm Fo
theorem script1 (s : ByteArray) (w : World) (hs : s.size ≤ 140737488355328) (q : Bool) (hq : scriptL (L s) = q) :
    Calls Try.prog 71 #[.string s] w fun e w' => e = .returned (.bool q) ∧ Below w.heap.size w w' := by
  have k := script_any s w hs
  rw [hq] at k
  exact k
theorem f1 : B (schemeL (L ⟨#[32, 74, 97, 86, 97, 9, 83, 99, 114, 105, 112, 116, 58, 120]⟩)) = ⟨#[106, 97, 118, 97, 115, 99, 114, 105, 112, 116]⟩ := by kernel_rfl
theorem f2 : B (schemeL (L ⟨#[97, 47, 98, 58, 99]⟩)) = ⟨#[]⟩ := by kernel_rfl
theorem f3 : B (sourceL (L ⟨#[106, 97, 118, 97, 115, 99, 114, 105, 112, 116, 58, 97, 37, 50, 48, 98]⟩)) = ⟨#[97, 32, 98]⟩ := by kernel_rfl
theorem f4 : B (sourceL (L ⟨#[104, 116, 116, 112, 115, 58, 97]⟩)) = ⟨#[]⟩ := by kernel_rfl
theorem f5 : scriptL (L ⟨#[74, 65, 86, 65, 83, 67, 82, 73, 80, 84, 58]⟩) = true := by kernel_rfl
theorem f6 : scriptL (L ⟨#[106, 97, 118, 97, 115, 99, 114, 105, 112, 116]⟩) = false := by kernel_rfl
theorem f7 : B (stripL (L ⟨#[0, 32, 97, 10, 98, 32]⟩)) = ⟨#[97, 98]⟩ := by kernel_rfl
theorem f8 : B (pct (L ⟨#[37, 52, 49, 37, 52, 37, 122, 122, 37]⟩)) = ⟨#[65, 37, 52, 37, 122, 122, 37]⟩ := by kernel_rfl

end Go.Proofs.Ytdjkeakagmgfgaa.Lk

namespace Go.Proofs.Ytdjkeakagmgfgaa.Rk
set_option maxRecDepth 100000
set_option linter.unusedVariables false
set_option linter.unusedSimpArgs false
open Go.RowKit Go.Maps Ba Fm Lk Ml
theorem hand_cut (a : ByteArray) (h : 2 < a.size) : ((a.extract 0 2).toList == [111, 110]) = hand (L a) := by
  have e : (a.extract 0 2).toList = (L a).take 2 := by
    rw [toList_L, L_extract]
    rfl
  rw [e]
  rw [← size_L] at h
  match L a, h with
  | x :: y :: z :: r, _ =>
    show ([x, y] == [111, 110]) = (x == 111 && y == 110)
    simp

set_option maxRecDepth 100000 in
theorem handler1 (a : ByteArray) (w : World) (q : Bool) (hq : hand (L a) = q) :
    Calls Try.prog 93 #[.string a] w fun r w' => r = .returned (.bool q) ∧ w = w' := by
  by_cases h : 2 < a.size
  · have hc := hand_cut a h
    rw [hq] at hc
    have h' : (2 : Int) < a.size := by omega
    clear hq
    go_enter Try.func93, Try.ntmps93
    go_wp2
    go_ret
    exact ⟨rfl, rfl⟩
  · have h' : decide ((2 : Int) < a.size) = false := decide_eq_false (by omega)
    have : q = false := by
      rw [← hq]
      rw [← size_L] at h
      match L a, h with
      | [], _ | [_], _ | [_, _], _ => rfl
      | x :: y :: z :: r, e => exact absurd (by simp) e
    subst this
    clear hq
    go_enter Try.func93, Try.ntmps93
    go_wp2
    go_ret
    exact ⟨rfl, rfl⟩

def sinkJobs (b : Nat) : List Job := .mk :: (takesL.flatMap fun p => [.val (pairV p.1 p.2), .ins (pairV p.1 p.2) (.int .i64 3)]) ++ [.val (pairV ⟨#[105, 102, 114, 97, 109, 101]⟩ ⟨#[115, 114, 99, 100, 111, 99]⟩), .ins (pairV ⟨#[105, 102, 114, 97, 109, 101]⟩ ⟨#[115, 114, 99, 100, 111, 99]⟩) (.int .i64 1), .val (.map (some b)), .val (.map (some b))]
def sinkPairs : List (ByteArray × ByteArray × Value) := (takesL.map fun p => (p.1, p.2, Value.int .i64 3)) ++ [(⟨#[105, 102, 114, 97, 109, 101]⟩, ⟨#[115, 114, 99, 100, 111, 99]⟩, .int .i64 1)]
theorem ent_sink (b : Nat) : (sinkJobs b).filterMap ent = sinkPairs := rfl
theorem sink_small : ∀ p ∈ sinkPairs, p.1.size ≤ maxLen ∧ p.2.1.size ≤ maxLen := by
  have h : (sinkPairs.all fun p => decide (p.1.size ≤ 20) && decide (p.2.1.size ≤ 20)) = true := by decide +kernel
  intro p hp
  have := List.all_eq_true.1 h p hp
  rw [Bool.and_eq_true, decide_eq_true_iff, decide_eq_true_iff] at this
  unfold maxLen
  omega
theorem sink_mem {e a : ByteArray} {v : Value} (h : (e, a, v) ∈ sinkPairs) (hh : hand (L a) = false) : v = .int .i64 (sinkN e a) ∧ sinkN e a ≠ 0 := by
  unfold sinkPairs at h
  rcases List.mem_append.1 h with h | h
  · obtain ⟨p, hp, hx⟩ := List.mem_map.1 h
    injection hx with h1 h2
    injection h2 with h2 h3
    have : pairB takesL e a = true := pair_mem.2 (by rw [← h1, ← h2]; exact hp)
    have hs : sinkN e a = 3 := by
      unfold sinkN
      rw [if_neg (by rw [hh]; decide), if_pos this]
    rw [hs]
    exact ⟨h3.symm, by decide⟩
  · have := List.mem_singleton.1 h
    injection this with h1 h2
    injection h2 with h2 h3
    subst h1 h2
    have hs : sinkN ⟨#[105, 102, 114, 97, 109, 101]⟩ ⟨#[115, 114, 99, 100, 111, 99]⟩ = 1 := by decide +kernel
    rw [hs]
    exact ⟨h3, by decide⟩
theorem sink_none {e a : ByteArray} (h : ∀ v, (e, a, v) ∉ sinkPairs) (hh : hand (L a) = false) : sinkN e a = 0 := by
  unfold sinkN
  rw [if_neg (by rw [hh]; decide)]
  rw [if_neg, if_neg]
  · intro hd
    unfold docB at hd
    rw [Bool.and_eq_true, decide_eq_true_iff, decide_eq_true_iff] at hd
    exact h (.int .i64 1) (List.mem_append_right _ (by rw [hd.1, hd.2]; exact List.mem_singleton.2 rfl))
  · intro hd
    exact h (.int .i64 3) (List.mem_append_left _ (List.mem_map.2 ⟨_, pair_mem.1 hd, rfl⟩))

set_option maxRecDepth 100000 in
theorem sink_any (e a : ByteArray) (he : e.size ≤ maxLen) (ha : a.size ≤ maxLen) (w : World) :
    Calls Try.prog 69 #[.string e, .string a] w fun r w' => r = .returned (.int .i64 (sinkN e a)) ∧ Below w.heap.size w w' := by
  cases hh : hand (L a) with
  | true =>
    have hs : sinkN e a = 2 := by
      unfold sinkN
      rw [if_pos hh]
    rw [hs]
    clear hs
    go_enter Try.func69, Try.ntmps69
    go_wp2_with fail
    refine (handler1 a w true hh).mono ?_
    rintro r w1 ⟨rfl, rfl⟩
    clear hh
    go_wp2
    go_ret
    exact ⟨rfl, Below.refl _ _⟩
  | false =>
  go_enter Try.func69, Try.ntmps69
  go_wp2_with fail
  refine (handler1 a w false hh).mono ?_
  rintro r w1 ⟨rfl, rfl⟩
  have HH := Lib.hid hh
  clear hh
  go_wp2
  refine region_pairs (l := sinkJobs w.heap.size) (List.toArray (.string e :: .string a :: undef :: undef :: .int .i64 0 :: .map (some w.heap.size) :: undef :: undef :: .string a :: .bool false :: .map (some w.heap.size) :: .agg #[.string ⟨#[115, 99, 114, 105, 112, 116]⟩, .string ⟨#[115, 114, 99]⟩] :: .agg #[.string ⟨#[101, 109, 98, 101, 100]⟩, .string ⟨#[115, 114, 99]⟩] :: .agg #[.string ⟨#[111, 98, 106, 101, 99, 116]⟩, .string ⟨#[100, 97, 116, 97]⟩] :: .agg #[.string ⟨#[105, 102, 114, 97, 109, 101]⟩, .string ⟨#[115, 114, 99, 100, 111, 99]⟩] :: .map (some w.heap.size) :: undef :: undef :: undef :: undef :: undef :: undef :: undef :: undef :: undef :: undef :: [])) (by kernel_rfl) lawPair Try.underlying99 rfl (by kernel_rfl) ?_ ?_ (by kernel_rfl) ?_
  · refine ⟨rfl, fun a w _ => ?_, does_insC 0 1 rfl rfl rfl (by simp) (by simp) rfl rfl rfl rfl, fun a w _ => ?_, does_insC 0 3 rfl rfl rfl (by simp) (by simp) rfl rfl rfl rfl, fun a w _ => ?_, does_insC 0 5 rfl rfl rfl (by simp) (by simp) rfl rfl rfl rfl, fun a w _ => ?_, does_insC 0 7 rfl rfl rfl (by simp) (by simp) rfl rfl rfl rfl, does_move 0 (.inl rfl) (by simp) rfl rfl, does_move 9 (.inr rfl) (by simp) rfl rfl, trivial⟩
    all_goals (go_simp; try rfl)
  · intro e' a' v hm
    rw [ent_sink] at hm
    have := sink_small _ hm
    exact key_pair this.1 this.2
  · intro w1 hb1 hT
    rw [ent_sink] at hT
    obtain ⟨x, hx⟩ := key_pair he ha
    have hz : (zeroValue 3).run Try.prog w1 = .ok (.int .i64 0) w1 := by kernel_rfl
    have hl : ∃ k : Nat, k = sinkN e a ∧ (Instr.lookup 99 (.map (some w.heap.size)) (.agg #[.string e, .string a]) true).run Try.prog w1 = .ok (.tuple #[.int .i64 k, .bool (decide (k ≠ 0))]) w1 := by
      rcases hT.look lawPair Try.underlying99 hz hx with ⟨h1, h2⟩ | ⟨v, ⟨e', a', h2, h3⟩, h1⟩
      · have : sinkN e a = 0 := sink_none (fun v hv => h2 v ⟨e, a, rfl, hv⟩) HH.out
        exact ⟨0, this.symm, h1⟩
      · obtain ⟨rfl, rfl⟩ := pairV_inj h2
        obtain ⟨h4, h5⟩ := sink_mem h3 HH.out
        refine ⟨_, rfl, ?_⟩
        rw [decide_eq_true h5, ← h4]
        exact h1
    clear hT hx hz
    obtain ⟨k, hk, hl⟩ := hl
    have HK := Lib.hid hk
    clear hk
    by_cases h0 : k = 0
    · subst h0
      go_wp2
      go_ret
      exact ⟨congrArg (fun n : Nat => Ending.returned (.int .i64 n)) HK.out, (Below.refl _ _).drew.trans hb1⟩
    · have h0' : decide (k ≠ 0) = true := decide_eq_true h0
      rw [h0'] at hl
      clear h0 h0'
      go_wp2
      go_ret
      exact ⟨congrArg (fun n : Nat => Ending.returned (.int .i64 n)) HK.out, (Below.refl _ _).drew.trans hb1⟩
end Go.Proofs.Ytdjkeakagmgfgaa.Rk

namespace Go.Proofs.Ytdjkeakagmgfgaa.Rk
set_option maxRecDepth 100000
set_option linter.unusedVariables false
set_option linter.unusedSimpArgs false
open Go.RowKit Ba Fm
theorem eqlit (s : ByteArray) (l : List UInt8) : (s.toList == l) = decide (s = ⟨l.toArray⟩) := by
  rw [← ByteArray.toList_mk l, eq_of_toList, ByteArray.toList_mk]
theorem never_or (e : ByteArray) (b0 b1 b2 b3 b4 b5 b6 b7 : Bool) (h0 : (e.toList == [98, 97, 115, 101]) = b0) (h1 : (e.toList == [101, 109, 98, 101, 100]) = b1) (h2 : (e.toList == [102, 114, 97, 109, 101]) = b2) (h3 : (e.toList == [105, 102, 114, 97, 109, 101]) = b3) (h4 : (e.toList == [108, 105, 110, 107]) = b4) (h5 : (e.toList == [109, 101, 116, 97]) = b5) (h6 : (e.toList == [111, 98, 106, 101, 99, 116]) = b6) (h7 : (e.toList == [115, 99, 114, 105, 112, 116]) = b7) : (b0 || b1 || b2 || b3 || b4 || b5 || b6 || b7) = neverB e := by
  rw [eqlit] at h0 h1 h2 h3 h4 h5 h6 h7
  subst h0 h1 h2 h3 h4 h5 h6 h7
  unfold neverB isIn unsafeL
  rw [Bool.eq_iff_iff]
  simp [or_assoc]
set_option maxRecDepth 100000 in
theorem element1 (e : ByteArray) (w : World) (q : Bool) (hq : neverB e = q) :
    Calls Try.prog 75 #[.string e] w fun r w' => r = .returned (.bool q) ∧ w = w' := by
  obtain ⟨b0, h0⟩ : ∃ b, (e.toList == [98, 97, 115, 101]) = b := ⟨_, rfl⟩
  obtain ⟨b1, h1⟩ : ∃ b, (e.toList == [101, 109, 98, 101, 100]) = b := ⟨_, rfl⟩
  obtain ⟨b2, h2⟩ : ∃ b, (e.toList == [102, 114, 97, 109, 101]) = b := ⟨_, rfl⟩
  obtain ⟨b3, h3⟩ : ∃ b, (e.toList == [105, 102, 114, 97, 109, 101]) = b := ⟨_, rfl⟩
  obtain ⟨b4, h4⟩ : ∃ b, (e.toList == [108, 105, 110, 107]) = b := ⟨_, rfl⟩
  obtain ⟨b5, h5⟩ : ∃ b, (e.toList == [109, 101, 116, 97]) = b := ⟨_, rfl⟩
  obtain ⟨b6, h6⟩ : ∃ b, (e.toList == [111, 98, 106, 101, 99, 116]) = b := ⟨_, rfl⟩
  obtain ⟨b7, h7⟩ : ∃ b, (e.toList == [115, 99, 114, 105, 112, 116]) = b := ⟨_, rfl⟩
  have HQ := Lib.hid ((never_or e b0 b1 b2 b3 b4 b5 b6 b7 h0 h1 h2 h3 h4 h5 h6 h7).trans hq)
  clear hq
  go_enter Try.func75, Try.ntmps75
  cases b0 with
  | true =>
    go_wp2
    go_ret
    exact ⟨ret_bool (by rw [← HQ.out]; simp), rfl⟩
  | false =>
  cases b1 with
  | true =>
    go_wp2
    go_ret
    exact ⟨ret_bool (by rw [← HQ.out]; simp), rfl⟩
  | false =>
  cases b2 with
  | true =>
    go_wp2
    go_ret
    exact ⟨ret_bool (by rw [← HQ.out]; simp), rfl⟩
  | false =>
  cases b3 with
  | true =>
    go_wp2
    go_ret
    exact ⟨ret_bool (by rw [← HQ.out]; simp), rfl⟩
  | false =>
  cases b4 with
  | true =>
    go_wp2
    go_ret
    exact ⟨ret_bool (by rw [← HQ.out]; simp), rfl⟩
  | false =>
  cases b5 with
  | true =>
    go_wp2
    go_ret
    exact ⟨ret_bool (by rw [← HQ.out]; simp), rfl⟩
  | false =>
  cases b6 with
  | true =>
    go_wp2
    go_ret
    exact ⟨ret_bool (by rw [← HQ.out]; simp), rfl⟩
  | false =>
  cases b7 with
  | true =>
    go_wp2
    go_ret
    exact ⟨ret_bool (by rw [← HQ.out]; simp), rfl⟩
  | false =>
  go_wp2
  go_ret
  exact ⟨ret_bool (by rw [← HQ.out]; rfl), rfl⟩

end Go.Proofs.Ytdjkeakagmgfgaa.Rk

namespace Go.Proofs.Ytdjkeakagmgfgaa.Rz
set_option linter.unusedVariables false
set_option linter.unusedSimpArgs false
open Go.RowKit Go.ChangeShapes Go.WideShapes
/-- Each string that is read there, and each row of memory, is within the reach. -/
def Within {H : Type} (P : Program) (t : TypeId) (d : DataW H) : Prop := ∀ m ∈ d.weights P t, m ≤ reachBytes
theorem within_all {H : Type} {P : Program} {e : TypeId} {d : DataW H} {m : Nat} : ∀ {l : List (DataW H)}, d ∈ l → m ∈ d.weights P e → m ∈ DataW.weightsAll P e l
  | [], h, _ => by cases h
  | x :: r, h, hm => by
    rw [DataW.weightsAll, List.mem_append]
    rcases List.mem_cons.1 h with rfl | h
    · exact .inl hm
    · exact .inr (within_all h hm)
theorem Within.elem {H : Type} {P : Program} {t e : TypeId} {l sp : List (DataW H)} {d : DataW H} (h : Within P t (.slice l sp)) (ht : P.underlying t = some (.slice e)) (hd : d ∈ l) : Within P e d := fun m hm => h m (by
  simp only [DataW.weights, ht, List.mem_cons, List.mem_append]
  exact .inr (.inl (within_all hd hm)))
theorem Within.part {H : Type} {P : Program} {t : TypeId} {fs : Array Field} {l : List (DataW H)} {d : DataW H} {j : Nat} {f : Field} (h : Within P t (.agg l)) (ht : P.underlying t = some (.struct fs)) (hf : fs[j]? = some f) (hd : l[j]? = some d) : Within P f.type d := fun m hm => h m (by
  simp only [DataW.weights, ht]
  exact DataW.weights_mem_each (j := j) (by rw [List.getElem?_map, Array.getElem?_toList, hf]; rfl) hd m hm)
theorem Within.str {H : Type} {P : Program} {t : TypeId} {s : ByteArray} (h : Within P t (.lit (.string s.data.toList) : DataW H)) : s.size ≤ reachBytes := by
  have := h s.data.toList.length (by simp [DataW.weights])
  rw [Array.length_toList] at this
  exact this
theorem sized_all {H : Type} {P : Program} {ts : List TypeId} {ds : List (DataW H)} (h : (DataW.weightsEach P ts ds).all (· ≤ reachBytes) = true) {j : Nat} {t : TypeId} {d : DataW H} (ht : ts[j]? = some t) (hd : ds[j]? = some d) : Within P t d := fun m hm => by
  have := List.all_eq_true.1 h m (DataW.weights_mem_each ht hd m hm)
  simpa using this

theorem reach_le {n : Nat} (h : n ≤ reachBytes) : n ≤ 140737488355328 := Nat.le_trans h (by decide)

end Go.Proofs.Ytdjkeakagmgfgaa.Rz

namespace Go.Proofs.Ytdjkeakagmgfgaa.Rz
set_option maxRecDepth 100000
set_option linter.unusedVariables false
set_option linter.unusedSimpArgs false
open Go.RowKit Ba Go.ChangeShapes Go.WideShapes Go.Deep
open Ro (At Ro Cw ros Rv Rr Att Held cells acells Ra Sh open_rows_parts open_agg_any)
/-- Names and values of attributes are within the reach. -/
def SmallA (l : List At) : Prop := ∀ a ∈ l, a.name.size ≤ 140737488355328 ∧ a.value.size ≤ 140737488355328
def SmallR (x : Ro) : Prop := x.name.size ≤ 140737488355328 ∧ x.data.size ≤ 140737488355328 ∧ SmallA x.attrs
def Small (l : List Ro) : Prop := ∀ x ∈ l, SmallR x
section
variable {H : Type} {enc : TypeId × Value → H} {w : World} {base : Nat}
theorem attrs_small {fuel N c : Nat} {v : Value} {x : DataW H × List MemPlace} {A : Option Addr} {l : List At} (h : DataW.trod enc Try.prog w 0 (fun _ => true) true fuel 34 [v] = some x) (hv : v = .slice A l.length c) (hr : Ra w N A l) (hz : Within Try.prog 34 x.1) : SmallA l := by
  subst hv
  rcases open_rows_parts Try.underlying34 Try.underlying40 (by kernel_rfl) (by kernel_rfl) h with hcs | ⟨a, len, cap, D, sp, hcs, hx, hi⟩
  · simp at hcs
    obtain ⟨_, hl, _⟩ := hcs
    have : l = [] := hl
    subst this
    intro a ha
    cases ha
  · simp at hcs
    obtain ⟨hA, hl, _⟩ := hcs
    intro a0 ha0
    obtain ⟨i, hil, rfl⟩ := List.getElem_of_mem ha0
    obtain ⟨b, off, e, _, hc⟩ := hr (by omega)
    rw [hA] at e
    injection e with e
    subst e
    rw [hx] at hz
    have hzi := hz.elem (d := D i) Try.underlying34 (List.mem_map.2 ⟨i, List.mem_range.2 (by omega), rfl⟩)
    obtain ⟨u0, y0, n0, p0, hc0, hD0, hy0, ht0⟩ := hi i (by omega) 0 _ rfl
    obtain ⟨u1, y1, n1, p1, hc1, hD1, hy1, ht1⟩ := hi i (by omega) 1 _ rfl
    obtain rfl : p0 = p1 := by rw [hD0] at hD1; injection hD1
    obtain ⟨s0, e0, g0, _⟩ := DataW.trod_string Try.underlying9 ht0
    obtain ⟨s1, e1, g1, _⟩ := DataW.trod_string Try.underlying9 ht1
    rw [add_plain] at hc0 hc1
    have k0 := hc i hil 0 (.string l[i].name) rfl
    have k1 := hc i hil 1 (.string l[i].value) rfl
    have q0 : s0 = l[i].name := by
      obtain rfl : u0 = .string s0 := by simpa using e0
      rw [show off + i * 2 + 0 = off + (i * 2 + 0) by omega] at k0
      have := hc0.symm.trans k0
      injection this with this
      injection this
    have q1 : s1 = l[i].value := by
      obtain rfl : u1 = .string s1 := by simpa using e1
      rw [show off + i * 2 + 1 = off + (i * 2 + 1) by omega] at k1
      have := hc1.symm.trans k1
      injection this with this
      injection this
    rw [hD0] at hzi
    have z0 := hzi.part Try.underlying40 rfl hy0
    have z1 := hzi.part Try.underlying40 rfl hy1
    rw [g0] at z0
    rw [g1] at z1
    have z0 := reach_le z0.str
    have z1 := reach_le z1.str
    rw [← q0, ← q1]
    exact ⟨z0, z1⟩
theorem rows_small {v : Value} {l : List Cw} {d : DataW H} {p : List MemPlace} (hs : Rv w v l)
    (h : ∃ fuel, DataW.trod enc Try.prog w 0 (fun _ => true) true fuel 22 v.cells.toList = some (d, p)) (hz : Within Try.prog 22 d) : Small (ros l) := by
  obtain ⟨A, c, rfl, _, _, hr, _⟩ := hs
  obtain ⟨fuel, hf⟩ := h
  rcases open_rows_parts Try.underlying22 Try.underlying36 (by kernel_rfl) (by kernel_rfl) hf with hcs | ⟨a, len, cap, D, sp, hcs, hx, hi⟩
  · simp [Value.cells] at hcs
    obtain ⟨_, hl, _⟩ := hcs
    have : l = [] := hl
    subst this
    intro a ha
    cases ha
  · simp [Value.cells] at hcs
    obtain ⟨hA, hl, _⟩ := hcs
    have hx : d = _ := hx
    intro x0 hx0
    obtain ⟨y0, hy0, rfl⟩ := List.mem_map.1 hx0
    obtain ⟨i, hil, rfl⟩ := List.getElem_of_mem hy0
    obtain ⟨b, off, e, _, hc⟩ := hr.1 (by omega)
    rw [hx] at hz
    have hzi := hz.elem (d := D i) Try.underlying22 (List.mem_map.2 ⟨i, List.mem_range.2 (by omega), rfl⟩)
    obtain ⟨v2, y2, n2, p2, hc2, hD2, g2, ht2⟩ := hi i (by omega) 2 _ rfl
    obtain ⟨v3, y3, n3, p3, hc3, hD3, g3, ht3⟩ := hi i (by omega) 3 _ rfl
    obtain ⟨v4, y4, n4, p4, hc4, hD4, g4, ht4⟩ := hi i (by omega) 4 _ rfl
    obtain rfl : p2 = p3 := by rw [hD2] at hD3; injection hD3
    obtain rfl : p2 = p4 := by rw [hD2] at hD4; injection hD4
    obtain ⟨s2, e2, b2, _⟩ := DataW.trod_string Try.underlying9 ht2
    obtain ⟨s3, e3, b3, _⟩ := DataW.trod_string Try.underlying9 ht3
    obtain rfl : v2 = .string s2 := by simpa using e2
    obtain rfl : v3 = .string s3 := by simpa using e3
    rw [hA] at e
    injection e with e
    subst e
    rw [add_plain] at hc2 hc3 hc4
    have k2 := hc i hil 2 (.string l[i].ro.name) rfl
    have k3 := hc i hil 3 (.string l[i].ro.data) rfl
    have k4 := hc i hil 4 (.slice l[i].A l[i].ro.attrs.length l[i].c) rfl
    rw [show off + i * 5 + 2 = off + (i * 5 + 2) by omega] at k2
    rw [show off + i * 5 + 3 = off + (i * 5 + 3) by omega] at k3
    rw [show off + i * 5 + 4 = off + (i * 5 + 4) by omega] at k4
    have q2 : s2 = l[i].ro.name := by
      have := Option.some.inj (hc2.symm.trans k2)
      injection this
    have q3 : s3 = l[i].ro.data := by
      have := Option.some.inj (hc3.symm.trans k3)
      injection this
    obtain rfl : v4 = .slice l[i].A l[i].ro.attrs.length l[i].c := Option.some.inj (hc4.symm.trans k4)
    have hra := (hr.2 l[i] (List.getElem_mem _)).2.2.2.1
    rw [hD2] at hzi
    have z2 := hzi.part Try.underlying36 rfl g2
    have z3 := hzi.part Try.underlying36 rfl g3
    have z4 := hzi.part Try.underlying36 rfl g4
    rw [b2] at z2
    rw [b3] at z3
    have h2 := z2.str
    have h3 := z3.str
    rw [q2] at h2
    rw [q3] at h3
    exact ⟨reach_le h2, reach_le h3, attrs_small ht4 rfl hra z4⟩
end
end Go.Proofs.Ytdjkeakagmgfgaa.Rz

namespace Go.Proofs.Ytdjkeakagmgfgaa.Rk
set_option maxRecDepth 100000
set_option linter.unusedVariables false
set_option linter.unusedSimpArgs false
open Go.RowKit Go.Maps Ba Fm Lk Ml
open Ro (At Ro Cw ros Rv Rr Att Ra rowO box_at box_kept getElem_of_drop below_new size_row size_attr range5 range2 cells)
theorem nav1 (e a : ByteArray) (he : e.size ≤ 140737488355328) (ha : a.size ≤ 140737488355328) (w : World) (q : Bool) (hq : navB e a = q) :
    Calls Try.prog 70 #[.string e, .string a] w fun r w' => r = .returned (.bool q) ∧ Below w.heap.size w w' := by
  have := nav_any e a (by unfold maxLen; omega) (by unfold maxLen; omega) w
  rw [hq] at this
  exact this
theorem sink1 (e a : ByteArray) (he : e.size ≤ 140737488355328) (ha : a.size ≤ 140737488355328) (w : World) (n : Nat) (hq : sinkN e a = n) :
    Calls Try.prog 69 #[.string e, .string a] w fun r w' => r = .returned (.int .i64 n) ∧ Below w.heap.size w w' := by
  have := sink_any e a (by unfold maxLen; omega) (by unfold maxLen; omega) w
  rw [hq] at this
  exact this
theorem script10 (s : ByteArray) (w : World) (hs : s.size ≤ 140737488355328) (q : Bool) (hq : scriptL (L s) = q) :
    Calls Try.prog 71 #[.string s] w fun e w' => e = .returned (.bool q) ∧ Below w.heap.size w w' := script1 s w hs q hq

theorem abox_kept {w w3 : World} {n v : ByteArray} (hb : Below (w.alloc (.cells #[.string n, .string v] 40)).heap.size (w.alloc (.cells #[.string n, .string v] 40)) w3) (j : Nat) : w3.cell? ⟨w.heap.size, j, none⟩ = (Ro.acells ⟨n, v⟩)[j]? :=
  (hb.cell (p := ⟨w.heap.size, j, none⟩) (by simp)).trans (by
    rw [World.cell?_alloc_mark]
    match j with
    | 0 | 1 => rfl
    | j + 2 => simp [Ro.acells])
set_option maxRecDepth 100000 in
theorem attr1 (e : ByteArray) (a : At) (he : e.size ≤ 140737488355328) (ha : a.name.size ≤ 140737488355328) (hv : a.value.size ≤ 140737488355328) (w : World) (q : Bool) (hq : attrB e a = q) :
    Calls Try.prog 36 #[.string e, .agg #[.string a.name, .string a.value]] w fun r w' => r = .returned (.bool q) ∧ Below w.heap.size w w' := by
  obtain ⟨n, v⟩ := a
  simp only at ha hv ⊢
  obtain ⟨k, hk⟩ : ∃ k, sinkN e n = k := ⟨_, rfl⟩
  obtain ⟨b, hb⟩ : ∃ b, navB e n = b := ⟨_, rfl⟩
  obtain ⟨s, hs⟩ : ∃ s, scriptL (L v) = s := ⟨_, rfl⟩
  have hq' : (decide (k ≠ 0) || (b && s)) = q := by
    rw [← hq, ← hk, ← hb, ← hs]
    rfl
  have HK := Lib.hid hk; have HB := Lib.hid hb; have HS := Lib.hid hs; have HQ := Lib.hid hq'
  clear hk hb hs hq hq'
  go_enter Try.func36, Try.ntmps36
  go_wp2_with fail
  refine (sink1 e n he ha _ k HK.out).mono ?_
  rintro r w1 ⟨rfl, b1⟩
  have c0 := abox_kept b1 0
  have c1 := abox_kept b1 1
  simp only [Ro.acells, List.getElem?_cons_zero, List.getElem?_cons_succ] at c0 c1
  have hlt : w.heap.size < w1.heap.size := Nat.lt_of_lt_of_le (by simp) b1.size
  have B1 := Lib.hid ((below_new w _).trans (b1.mono (by simp)))
  clear b1
  by_cases h0 : k = 0
  · subst h0
    go_wp2_with fail
    refine (nav1 e n he ha _ b HB.out).mono ?_
    rintro r w2 ⟨rfl, b2⟩
    have d1 := (b2.cell (p := ⟨w.heap.size, 1, none⟩) hlt).trans c1
    have B2 := Lib.hid (B1.out.trans (b2.mono B1.out.size))
    clear b2 c0 c1
    cases b with
    | true =>
      go_wp2_with fail
      refine (script10 v _ hv s HS.out).mono ?_
      rintro r w3 ⟨rfl, b3⟩
      have B3 := Lib.hid (B2.out.trans (b3.mono B2.out.size))
      clear b3
      go_wp2
      go_ret
      exact ⟨ret_bool (by rw [← HQ.out]; simp), B3.out⟩
    | false =>
      go_wp2
      go_ret
      exact ⟨ret_bool (by rw [← HQ.out]; rfl), B2.out⟩
  · have h0n : ¬ (k : Int) = 0 := by omega
    have hq1 : true = q := by rw [← HQ.out, decide_eq_true h0]; rfl
    clear c0 c1
    subst hq1
    go_wp2
    go_ret
    exact ⟨rfl, B1.out⟩

set_option maxRecDepth 100000 in
/-- An element alone: it, and each of its attributes. -/
theorem safeElement1 (x : Cw) (w : World) (hx : Att w w.heap.size x) (hs : Rz.SmallR x.ro) (q : Bool) (hq : (!neverB x.ro.name && x.ro.attrs.all fun a => !attrB x.ro.name a) = q) :
    Calls Try.prog 40 #[Ro.rowV x] w fun r w' => r = .returned (.bool q) ∧ Below w.heap.size w w' := by
  obtain ⟨hn, _, hatt⟩ := hs
  obtain ⟨b, hb⟩ : ∃ b, neverB x.ro.name = b := ⟨_, rfl⟩
  have HB := Lib.hid hb
  rw [hb] at hq
  have HQ := Lib.hid hq
  clear hb hq
  have hlen := hx.1
  have hcm := hx.2.2.1
  have HX := Lib.hid hx
  clear hx
  unfold maxLen at hcm
  go_enter Try.func40, Try.ntmps40
  go_wp2_with fail
  refine (element1 x.ro.name _ b HB.out).mono ?_
  rintro r w1 ⟨rfl, rfl⟩
  cases b with
  | true =>
    go_wp2
    go_ret
    exact ⟨ret_bool (by rw [← HQ.out]; rfl), below_new _ _⟩
  | false =>
    go_wp2
    go_loopw [4, 11] (fun _ i wr => ∃ k : Nat, i = .int .i64 k ∧ k ≤ x.ro.attrs.length ∧ Hid ((x.ro.attrs.take k).all (fun a => !attrB x.ro.name a) = true) ∧ Below w.heap.size w wr ∧ w.heap.size < wr.heap.size ∧ wr.cell? ⟨w.heap.size, 2, none⟩ = some (.string x.ro.name)) (fun _ i _ => x.ro.attrs.length - (intOf i).toNat)
    case atStart => exact ⟨0, rfl, by omega, rfl, below_new _ _, by simp, by rw [box_at]; rfl⟩
    case round =>
      obtain ⟨k, rfl, hk, hall, hbel, hlt, hcell⟩ := hrel
      have hsz := hbel.size
      by_cases hp : k < x.ro.attrs.length
      · obtain ⟨b, off, a, hA, hb, hd, hx, hxm⟩ := (HX.out.2.2.2.1.below hbel).at_ k hp
        rw [hA]
        obtain ⟨q1, hq1⟩ : ∃ q1, attrB x.ro.name a = q1 := ⟨_, rfl⟩
        have HQ1 := Lib.hid hq1
        have htk : x.ro.attrs.take (k + 1) = x.ro.attrs.take k ++ [a] := by
          rw [List.take_add_one, getElem_of_drop hd]
          rfl
        have HT := Lib.hid htk
        have HM := Lib.hid hxm
        have hsa := hatt a hxm
        clear hd htk hxm hq1
        go_wp2_with (refine wpList_load_mid rfl 40 (.tmp 13) rfl b (off + k * 2) rfl _ _ hx Try.underlying40 rfl size_attr ?_)
        refine (attr1 x.ro.name a hn hsa.1 hsa.2 _ q1 HQ1.out).mono ?_
        rintro r w3 ⟨rfl, b3⟩
        have B3 : Below w.heap.size wr w3 := (below_new wr _ |>.mono hsz).trans (b3.mono (by simp; omega))
        have C3 : w3.cell? ⟨w.heap.size, 2, none⟩ = some (.string x.ro.name) := (b3.cell (p := ⟨w.heap.size, 2, none⟩) (by simp; omega)).trans ((Below.cell (below_new wr _) (p := ⟨w.heap.size, 2, none⟩) hlt).trans hcell)
        have HB3 := Lib.hid (hbel.trans B3)
        have hl3 : w.heap.size < w3.heap.size := Nat.lt_of_lt_of_le hlt B3.size
        clear b3 B3 hx hcell
        cases q1 with
        | true =>
          have he : q = false := by
            rw [← HQ.out, Bool.not_false, Bool.true_and, ← Bool.not_eq_true]
            intro h
            have := List.all_eq_true.1 h a HM.out
            rw [HQ1.out] at this
            cases this
          subst he
          clear HQ
          go_wp2
          go_ret
          exact ⟨rfl, HB3.out⟩
        | false =>
          have hall' : (x.ro.attrs.take (k + 1)).all (fun a => !attrB x.ro.name a) = true := by
            rw [HT.out, List.all_append, hall.out]
            simp [HQ1.out]
          have HA := Lib.hid hall'
          clear hall hall'
          go_wp2
          go_roundw
          case rel => exact ⟨k + 1, by go_num, by omega, HA, HB3.out, hl3, C3⟩
          case measure => simp [intOf]; omega
      · have he : q = true := by
          rw [← HQ.out]
          have := hall.out
          rw [List.take_of_length_le (by omega)] at this
          simpa using this
        subst he
        clear HQ
        go_wp2
        go_ret
        exact ⟨rfl, hbel⟩

/-- Rows whose strings are within the reach: whether they are safe. -/
theorem safe1 (v : Value) (l : List Cw) (w : World) (hv : Rv w v l) (hs : Rz.Small (ros l)) (q : Bool) (hq : safeB (ros l) = q) :
    Calls Try.prog 20 #[v] w fun r w' => r = .returned (.bool q) ∧ Below w.heap.size w w' := by
  obtain ⟨A, c, rfl, hlc, hcm, hr, _⟩ := hv
  unfold maxLen at hcm
  have HQ := Lib.hid hq
  clear hq
  go_enter Try.func20, Try.ntmps20
  go_wp2
  go_loopw [4, 7] (fun _ i wr => ∃ k : Nat, i = .int .i64 k ∧ k ≤ l.length ∧ Hid (safeB ((ros l).take k) = true) ∧ Below w.heap.size w wr) (fun _ i _ => l.length - (intOf i).toNat)
  case atStart => exact ⟨0, rfl, by omega, rfl, Below.refl _ _⟩
  case round =>
    obtain ⟨k, rfl, hk, hall, hbel⟩ := hrel
    have hsz := hbel.size
    by_cases hp : k < l.length
    · obtain ⟨b, off, x, hA, hb, hd, hx, hatt, hxm⟩ := (hr.below hbel).at_ k hp
      rw [hA]
      obtain ⟨q1, hq1⟩ : ∃ q1, rowB x.ro = q1 := ⟨_, rfl⟩
      have HQ1 := Lib.hid hq1
      have htk : (ros l).take (k + 1) = (ros l).take k ++ [x.ro] := by
        have := getElem_of_drop hd
        rw [List.take_add_one]
        unfold ros
        rw [List.getElem?_map, this]
        rfl
      have HT := Lib.hid htk
      have hxm' : x.ro ∈ ros l := List.mem_map.2 ⟨x, hxm, rfl⟩
      have HM := Lib.hid hxm'
      have hsx := Lib.hid (hs x.ro hxm')
      have HATT : Hid (Att (wr.alloc (rowO x)) (wr.alloc (rowO x)).heap.size x) := Lib.hid ((hatt.more hsz).boxed (Below.refl _ _) _)
      clear hd htk hxm hxm' hq1 hatt
      have hend : ∀ w3, Below w.heap.size wr w3 → Hid (Below w.heap.size w w3) := fun w3 h => Lib.hid (hbel.trans h)
      by_cases h0 : x.ro.kind = 0
      · have hq2 : (!neverB x.ro.name && x.ro.attrs.all fun a => !attrB x.ro.name a) = q1 := by
          have := HQ1.out
          unfold rowB at this
          rw [if_pos h0] at this
          rw [Bool.and_comm]
          exact this
        have HQ2 := Lib.hid hq2
        clear hq2
        go_wp2_with (refine wpList_load_mid rfl 36 (.tmp 9) rfl b (off + k * 5) rfl _ _ hx Try.underlying36 rfl size_row ?_)
        have K := safeElement1 x _ HATT.out hsx.out q1 HQ2.out
        simp only [rowO, Ro.rowV, h0] at K
        refine K.mono ?_
        rintro r w3 ⟨rfl, b3⟩
        have HB3 := hend w3 ((below_new wr _ |>.mono hsz).trans (b3.mono (by simp; omega)))
        clear b3 hx K
        cases q1 with
        | true =>
          have hall' : safeB ((ros l).take (k + 1)) = true := by rw [HT.out, safe_append, hall.out, safe_one, HQ1.out]; rfl
          have HA := Lib.hid hall'
          clear hall hall'
          go_wp2
          go_roundw
          case rel => exact ⟨k + 1, by go_num, by omega, HA, HB3.out⟩
          case measure => simp [intOf]; omega
        | false =>
          have he : q = false := by
            rw [← HQ.out, ← Bool.not_eq_true]
            intro h
            have := safe_of h _ HM.out
            rw [HQ1.out] at this
            cases this
          subst he
          clear HQ
          go_wp2
          go_ret
          exact ⟨rfl, HB3.out⟩
      · have hr1 : rowB x.ro = true := by unfold rowB; rw [if_neg h0]
        have hall' : safeB ((ros l).take (k + 1)) = true := by rw [HT.out, safe_append, hall.out, safe_one, hr1]; rfl
        have HA := Lib.hid hall'
        have HB3 := hend _ (below_new wr (rowO x) |>.mono hsz)
        clear hall hall' hr1
        go_wp2_with (refine wpList_load_mid rfl 36 (.tmp 9) rfl b (off + k * 5) rfl _ _ hx Try.underlying36 rfl size_row ?_)
        go_roundw
        case rel => exact ⟨k + 1, by go_num, by omega, HA, HB3.out⟩
        case measure => simp [intOf]; omega
    · have he : q = true := by
        rw [← HQ.out]
        have := hall.out
        rw [List.take_of_length_le (by rw [Ro.len_ros]; omega)] at this
        exact this
      subst he
      clear HQ
      go_wp2
      go_ret
      exact ⟨rfl, hbel⟩
end Go.Proofs.Ytdjkeakagmgfgaa.Rk

namespace Go.Proofs.Ytdjkeakagmgfgaa.Lk
set_option maxRecDepth 100000
set_option linter.unusedSimpArgs false
set_option linter.unusedVariables false
open Go.RowKit Ba Fm Fo
end Go.Proofs.Ytdjkeakagmgfgaa.Lk

namespace Go.Proofs.Ytdjkeakagmgfgaa.Rk
set_option maxRecDepth 100000
set_option linter.unusedVariables false
set_option linter.unusedSimpArgs false
open Go.RowKit Go.Maps Ba Fm Lk Ml Fo
open Ro (At Ro)
/-! ### Pairs, joined by a blank. -/
theorem joined_any (P : List (ByteArray × ByteArray)) (e a : ByteArray) : (P.any fun p => decide (joinP p = joinP (e, a))) = isIn (joinP (e, a)) (P.map joinP) := by
  rw [Bool.eq_iff_iff, List.any_eq_true]
  constructor
  · rintro ⟨p, hp, h⟩
    exact isIn_yes (by rw [← of_decide_eq_true h]; exact List.mem_map.2 ⟨p, hp, rfl⟩)
  · intro h
    obtain ⟨p, hp, hj⟩ := List.mem_map.1 (isIn_of h)
    exact ⟨p, hp, decide_eq_true hj⟩
end Go.Proofs.Ytdjkeakagmgfgaa.Rk

namespace Go.Proofs.Ytdjkeakagmgfgaa.To
set_option maxRecDepth 100000
set_option linter.unusedSimpArgs false
set_option linter.unusedVariables false
open Go.RowKit Ba
open Ro (At acells len_acells below_new Sh Ra acells_one info_attr)
/-- Attributes of the call's own. -/
def Aw (N : Nat) (w : World) (v : Value) (l : List At) : Prop := w.ownsRow N 40 2 v l.length (l.flatMap acells) ∧ Sh l
theorem Aw.nil (N : Nat) (w : World) : Aw N w (.slice none 0 0) [] := ⟨World.ownsRow_nil w N _ 2, fun _ h => by simp at h⟩
/-- A block that is none of attributes is not theirs. -/
theorem Aw.ne {N b : Nat} {w : World} {v : Value} {l : List At} (h : Aw N w v l) {cs : Array Value} {t : TypeId} {fr : Nat × Nat} (hb : w.heap[b]? = some (.cells cs t fr)) (ht : t ≠ 40) : v.ownBlock ≠ some b := by
  rcases h.1.2 with ⟨rfl, _⟩ | ⟨g, cap, cur, rfl, _, hh, _⟩
  · simp [Value.ownBlock]
  · intro e
    have e : g = b := by simpa [Value.ownBlock] using e
    subst e
    rw [hb] at hh
    injection hh with hh
    injection hh with _ h2
    exact ht h2
theorem Aw.low {N b : Nat} {w : World} {v : Value} {l : List At} (h : Aw N w v l) (hb : b < N) : v.ownBlock ≠ some b := fun e => by
  have := (World.ownsRow.lt h.1 b e).1
  omega
theorem Aw.kept {N : Nat} {w w' : World} {v : Value} {l : List At} {row : Option Nat} (h : Aw N w v l) (hg : w.grownBy w' row) (hne : v.ownBlock = none ∨ v.ownBlock ≠ row) : Aw N w' v l := ⟨World.ownsRow.kept h.1 hg hne, h.2⟩
theorem Aw.alloc {N : Nat} {w : World} {v : Value} {l : List At} (h : Aw N w v l) (o : Obj) : Aw N (w.alloc o) v l := ⟨World.ownsRow.alloc h.1 o, h.2⟩
theorem Aw.form {N : Nat} {w : World} {v : Value} {l : List At} (h : Aw N w v l) : ∃ A c, v = .slice A l.length c := by
  rcases h.1.2 with ⟨hv, hl⟩ | ⟨g, cap, cur, hv, _⟩
  · exact ⟨none, 0, by rw [hl]; exact hv⟩
  · exact ⟨_, _, hv⟩

theorem attr_cells_new (w : World) (x : At) : ∀ j u, (acells x)[j]? = some u → (w.alloc (.cells #[.string x.name, .string x.value] 40)).cell? ((⟨w.heap.size, 0, none⟩ : Addr).add j) = some u := fun j u hu => by
  rw [WideShapes.add_plain, Nat.zero_add, World.cell?_alloc_mark]
  match j with
  | 0 => exact hu
  | 1 => exact hu
  | j + 2 => simp [acells] at hu
/-- append of one attribute, in a block of its own, onto attributes of the call's own. -/
theorem app_attr {ops : Array Oper} {rest : List Oper} {o : Oper} {a : Act} {Q : Exit → Act → World → Prop} (w : World) (hgd : o.guard = none) (s x : Operand)
    (ho : o.op = .call { callee := .builtin .append, args := #[s, x], argTypes := #[34, 34] })
    (N : Nat) (v : Value) (l : List At) (y : At) (hs : a.eval s = v) (hown : Aw N w v l) (hy : y.name.size ≤ maxLen) (g : Nat) (hgz : g = w.heap.size) (hx : a.eval x = .slice (some ⟨g, 0, none⟩) 1 1)
    (hl : l.length ≤ 4000000000) (hN : N ≤ w.heap.size)
    (h : ∀ v' w', Aw N w' v' (l ++ [y]) → w.grownBy w' v.ownBlock → wpList Try.prog ops Q rest (a.put o.dst v') w') :
    wpList Try.prog ops Q (o :: rest) a (w.alloc (.cells #[.string y.name, .string y.value] 40)) := by
  subst hgz
  obtain ⟨i0, hi, hz0, hz1, hz2⟩ := info_parts info_attr
  have hown' : Aw N (w.alloc (.cells #[.string y.name, .string y.value] 40)) v l := hown.alloc _
  have hsz : (w.alloc (.cells #[.string y.name, .string y.value] 40)).heap.size = w.heap.size + 1 := by simp
  refine wpList_append_own _ hgd s x 34 ho N 40 i0 _ 2 32 Try.underlying34 hi hz0 hz1 hz2 rfl (by decide) v l.length (l.flatMap acells) hs hown'.1 ⟨w.heap.size, 0, none⟩ 1 1 (acells y) hx rfl (attr_cells_new w y) (by have := acells_one [y]; simpa using this) (by unfold maxLen; omega) (by omega) (by omega) ?_
  intro v' w' ho2 hg2 _
  refine h v' w' ⟨?_, fun z hz => ?_⟩ ((World.grownBy_alloc w _ _).trans hg2)
  · rw [List.length_append, List.flatMap_append]
    simpa using ho2
  · rcases List.mem_append.1 hz with hz | hz
    · exact hown.2 z hz
    · rw [List.mem_singleton.1 hz]; exact hy

end Go.Proofs.Ytdjkeakagmgfgaa.To

namespace Go.Proofs.Ytdjkeakagmgfgaa.Cn
set_option maxRecDepth 100000
set_option linter.unusedVariables false
set_option linter.unusedSimpArgs false
open Go.RowKit Ba Ro
open Co (Cf Cv Sm confV confO attrB12 elementN)
open To (Aw app_attr)
theorem attrs_take (c : Cf) (s : Bool) (e : ByteArray) (l : List At) (k : Nat) {y : At} (h : l.drop k = y :: l.drop (k + 1)) : attrsL c s e (l.take (k + 1)) = attrsL c s e (l.take k) ++ if keepB c s e y = true then [y] else [] := by
  have e1 : l.take (k + 1) = l.take k ++ [y] := by
    rw [List.take_add_one]
    congr 1
    rw [getElem_of_drop h]
    rfl
  unfold attrsL
  rw [e1, List.filter_append, List.filter_cons, List.filter_nil]
theorem keep_yes {c : Cf} {s : Bool} {e : ByteArray} {l : List At} {k : Nat} {y : At} (h : l.drop k = y :: l.drop (k + 1)) (hk : keepB c s e y = true) : attrsL c s e (l.take (k + 1)) = attrsL c s e (l.take k) ++ [y] := by rw [attrs_take c s e l k h, if_pos hk]
theorem keep_no {c : Cf} {s : Bool} {e : ByteArray} {l : List At} {k : Nat} {y : At} (h : l.drop k = y :: l.drop (k + 1)) (hk : keepB c s e y = false) : attrsL c s e (l.take (k + 1)) = attrsL c s e (l.take k) := by rw [attrs_take c s e l k h, if_neg (by rw [hk]; decide), List.append_nil]
theorem attrs_le (c : Cf) (s : Bool) (e : ByteArray) (l : List At) (k : Nat) : (attrsL c s e (l.take k)).length ≤ l.length := Nat.le_trans (List.length_filter_le _ _) (List.length_take_le' _ _)

theorem aw_on {N : Nat} {w w' : World} {v : Value} {l : List At} (h : Aw N w v l) (hb : Below w.heap.size w w') : Aw N w' v l := by
  refine ⟨⟨h.1.1, ?_⟩, h.2⟩
  rcases h.1.2 with hn | ⟨g, cap, cur, hv, hg, hh, rest⟩
  · exact .inl hn
  · refine .inr ⟨g, cap, cur, hv, hg, ?_, rest⟩
    rw [hb.block g (Array.getElem?_eq_some_iff.1 hh).1]
    exact hh
/-- A row and a configuration, each in a box. -/
structure Bb (w : World) (b : Nat) (x : Cw) (c : Cf) (vE vR vA vP : Value) : Prop where
  row : ∀ j, w.cell? ⟨b, j, none⟩ = (cells x)[j]?
  cf : w.rangeAt (b + 1) 0 [.bool c.allow, .bool c.attrsAllow, vE, vR, vA, vP, .bool c.comments, .bool c.dataAttrs]
  lt : b + 1 < w.heap.size
theorem Bb.new (w : World) (x : Cw) (c : Cf) (vE vR vA vP : Value) : Bb ((w.alloc (rowO x)).alloc (confO c vE vR vA vP)) w.heap.size x c vE vR vA vP :=
  ⟨box_kept (below_new _ _), by have := Co.Bx.new (w.alloc (rowO x)) c vE vR vA vP; rwa [World.size_alloc] at this, by simp⟩
theorem Bb.on {w w' : World} {b : Nat} {x : Cw} {c : Cf} {vE vR vA vP : Value} (h : Bb w b x c vE vR vA vP) (hb : Below w.heap.size w w') : Bb w' b x c vE vR vA vP :=
  ⟨fun j => (hb.cell (p := ⟨b, j, none⟩) (by have := h.lt; show b < _; omega)).trans (h.row j), range_keep h.cf fun o => hb.cell (p := ⟨b + 1, o, none⟩) (show b + 1 < _ from h.lt), Nat.lt_of_lt_of_le h.lt hb.size⟩
theorem below_two (w : World) (a b : Obj) : Below w.heap.size w ((w.alloc a).alloc b) := (below_new w a).trans ((below_new _ b).mono (by simp))

set_option maxRecDepth 100000 in
set_option maxHeartbeats 4000000 in
theorem attrs_any (x : Cw) (v : Value) (c : Cf) (s : Bool) (w : World) (hx : Att w w.heap.size x) (hz : Rz.SmallR x.ro) (hc : Cv w w.heap.size v c) (hs : Sm c) (hm : x.ro.attrs.length ≤ 1000000) :
    Calls Try.prog 17 #[rowV x, v, .bool s] w fun r w' => ∃ v', r = .returned v' ∧ Aw w.heap.size w' v' (attrsF c s x.ro) ∧ Below w.heap.size w w' := by
  obtain ⟨vE, vR, vA, vP, pl, rfl, hc⟩ := hc
  obtain ⟨⟨dep, kd, nm, dt, ats⟩, A, cc⟩ := x
  obtain ⟨hz1, _, hz3⟩ := hz
  have hxc := hx.1; have hxm := hx.2.2.1
  unfold maxLen at hxm
  simp only at hxc hxm hm hz1 hz3
  obtain ⟨w0, hw0⟩ : ∃ w0, (w.alloc (rowO ⟨⟨dep, kd, nm, dt, ats⟩, A, cc⟩)).alloc (confO c vE vR vA vP) = w0 := ⟨_, rfl⟩
  have hb0 : Below w.heap.size w w0 := hw0 ▸ below_two w _ _
  have hbb : Bb w0 w.heap.size ⟨⟨dep, kd, nm, dt, ats⟩, A, cc⟩ c vE vR vA vP := hw0 ▸ Bb.new w _ c vE vR vA vP
  have HBX := Lib.hid (fun wr (hb : Below w0.heap.size w0 wr) => show wr.cell? ⟨w.heap.size, 2, none⟩ = some (.string nm) ∧ wr.cell? ⟨w.heap.size, 4, none⟩ = some (.slice A ats.length cc) ∧ wr.rangeAt (w.heap.size + 1) 0 _ from ⟨(hbb.on hb).row 2, (hbb.on hb).row 4, (hbb.on hb).cf⟩)
  have HCV := Lib.hid (fun wr (hb : Below w0.heap.size w0 wr) => show Cv wr wr.heap.size (confV c vE vR vA vP) c from ⟨_, _, _, _, _, rfl, (hc.on hb0).on hb⟩)
  have HRA := Lib.hid (fun wr (hb : Below w0.heap.size w0 wr) => show Ra wr w.heap.size A ats from (hx.2.2.2.1.below hb0).below hb hb0.size)
  have HW := Lib.hid hw0; have HB0 := Lib.hid hb0; have HSM := Lib.hid hs; have HSH := Lib.hid hx.2.2.2.2; have HZ := Lib.hid hz3
  have hsz0 := hb0.size
  have hlt0 := hbb.lt
  clear hc hx hw0 hb0 hbb hs hz3
  go_enter Try.func17, Try.ntmps17
  go_upto_region 1 with (fail)
  rw [HW.out]
  clear HW
  obtain ⟨g2, g4, g5⟩ := HBX.out w0 (Below.refl _ _)
  go_wp2
  clear g2 g4 g5
  go_loopw [7, 13] (fun u' i wr => ∃ (k : Nat) (u : Value), i = .int .i64 k ∧ u = u' ∧ k ≤ ats.length ∧ Aw w0.heap.size wr u (attrsL c s nm (ats.take k)) ∧ Below w0.heap.size w0 wr) (fun _ i _ => ats.length - (intOf i).toNat)
  case atStart => exact ⟨0, _, rfl, rfl, by omega, Aw.nil _ _, Below.refl _ _⟩
  case round =>
    obtain ⟨k, u, rfl, rfl, hk, ho, hbel⟩ := hrel
    have hsz := hbel.size
    by_cases hp : k < ats.length
    · obtain ⟨b, off, y, rfl, hb, hd, hy, hym⟩ := (HRA.out wr hbel).at_ k hp
      obtain ⟨f1, f2⟩ := range2 hy
      obtain ⟨hy1, hy2⟩ := HZ.out y hym
      have hy3 := HSH.out y hym
      obtain ⟨w1, hw1⟩ : ∃ w1, wr.alloc (.cells #[.string y.name, .string y.value] 40) = w1 := ⟨_, rfl⟩
      have hb1 : Below wr.heap.size wr w1 := hw1 ▸ below_new wr _
      have hbx1 : Below w0.heap.size w0 w1 := hbel.trans (hb1.mono hsz)
      have HAB := Lib.hid (fun wx (hb : Below w1.heap.size w1 wx) => show wx.cell? ⟨wr.heap.size, 0, none⟩ = some (.string y.name) ∧ wx.cell? ⟨wr.heap.size, 1, none⟩ = some (.string y.value) from by
        have h0 : wr.heap.size < w1.heap.size := by rw [← hw1]; simp
        have e : ∀ j, w1.cell? ⟨wr.heap.size, j, none⟩ = (acells y)[j]? := fun j => by rw [← hw1, World.cell?_alloc_mark]; simp [acells]
        exact ⟨(hb.cell (p := ⟨_, 0, none⟩) h0).trans (e 0), (hb.cell (p := ⟨_, 1, none⟩) h0).trans (e 1)⟩)
      have how1 : Aw w0.heap.size w1 u (attrsL c s nm (ats.take k)) := hw1 ▸ ho.alloc _
      have hle := attrs_le c s nm ats k
      have HO := Lib.hid how1; have HD := Lib.hid hd; have HB1 := Lib.hid hbx1; have HBL := Lib.hid hbel; have HS3 := Lib.hid hy3; have HE1 := Lib.hid hw1
      have HBN := Lib.hid hb1
      clear ho hd hbx1 hbel hy hy3 hym how1 hb1 hw1
      obtain ⟨q1, hq1⟩ : ∃ q, attrB12 c nm y.name = q := ⟨_, rfl⟩
      obtain ⟨q2, hq2⟩ : ∃ q, Rk.attrB nm y = q := ⟨_, rfl⟩
      have HQ1 := Lib.hid hq1; have HQ2 := Lib.hid hq2
      have HKB : Hid (keepB c s nm y = (q1 && !(s && q2))) := Lib.hid (by unfold keepB; rw [hq1, hq2])
      clear hq1 hq2
      go_upto_region 5 with (fail)
      rw [HE1.out]
      obtain ⟨g2, g4, g5⟩ := HBX.out w1 HB1.out
      obtain ⟨e0, e1⟩ := HAB.out w1 (Below.refl _ _)
      cases q1 with
      | false =>
        have hkb : keepB c s nm y = false := HKB.out
        go_wp2_with (first | (show wpList _ _ _ (⟨_, Op.load 26 (.tmp 4), _, _, _, _⟩ :: _) _ _; refine wpList_load_mid rfl 26 (.tmp 4) rfl (w.heap.size + 1) 0 rfl _ _ g5 Try.underlying26 rfl Co.size_conf ?_) | (go_at_call 35; refine (Co.attr1 _ c nm y.name _ _ (HCV.out _ HB1.out) HSM.out hy1 HQ1.out).mono ?_; rintro r w3 ⟨rfl, hb3⟩; have hbx3 := HB1.out.trans (hb3.mono HB1.out.size); have HB3 := Lib.hid hb3; have HX3 := Lib.hid hbx3; clear g2 g4 g5 e0 e1 hb3 hbx3; obtain ⟨g2, g4, g5⟩ := HBX.out w3 HX3.out; obtain ⟨e0, e1⟩ := HAB.out w3 HB3.out) | fail)
        go_roundw
        case rel => exact ⟨k + 1, _, by go_num, rfl, by omega, by rw [keep_no HD.out hkb]; exact aw_on HO.out HB3.out, HX3.out⟩
        case measure => simp [intOf]; omega
      | true =>
        cases s with
        | false =>
          have hkb : keepB c false nm y = true := HKB.out
          have HOW := Lib.hid (fun wx (hb : Below w1.heap.size w1 wx) => aw_on HO.out hb)
          go_upto_region 6 with (first | (show wpList _ _ _ (⟨_, Op.load 26 (.tmp 4), _, _, _, _⟩ :: _) _ _; refine wpList_load_mid rfl 26 (.tmp 4) rfl (w.heap.size + 1) 0 rfl _ _ g5 Try.underlying26 rfl Co.size_conf ?_) | (go_at_call 35; refine (Co.attr1 _ c nm y.name _ _ (HCV.out _ HB1.out) HSM.out hy1 HQ1.out).mono ?_; rintro r w3 ⟨rfl, hb3⟩; have hbx3 := HB1.out.trans (hb3.mono HB1.out.size); have HB3 := Lib.hid hb3; have HX3 := Lib.hid hbx3; clear g2 g4 g5 e0 e1 hb3 hbx3; obtain ⟨g2, g4, g5⟩ := HBX.out w3 HX3.out; obtain ⟨e0, e1⟩ := HAB.out w3 HB3.out) | fail)
          have how := HOW.out _ HB3.out
          clear HOW; have HOW := Lib.hid how
          clear how
          go_wp2_with (first | (at_builtin; refine app_attr _ rfl (.tmp 33) (.tmp 35) rfl w0.heap.size u _ y rfl HOW.out HS3.out _ rfl rfl (by omega) (by have := HX3.out.size; omega) ?_; intro v6 w6 ho6 hg6) | fail)
          go_roundw
          case rel =>
            refine ⟨k + 1, _, by go_num, rfl, by omega, by rw [keep_yes HD.out hkb]; exact ho6, ?_⟩
            exact HX3.out.grown hg6 HX3.out.size fun q hq => (World.ownsRow.lt HOW.out.1 q hq).1
          case measure => simp [intOf]; omega
        | true =>
          cases q2 with
          | true =>
            have hkb : keepB c true nm y = false := HKB.out
            go_wp2_with (first | (show wpList _ _ _ (⟨_, Op.load 26 (.tmp 4), _, _, _, _⟩ :: _) _ _; refine wpList_load_mid rfl 26 (.tmp 4) rfl (w.heap.size + 1) 0 rfl _ _ g5 Try.underlying26 rfl Co.size_conf ?_) | (go_at_call 35; refine (Co.attr1 _ c nm y.name _ _ (HCV.out _ HB1.out) HSM.out hy1 HQ1.out).mono ?_; rintro r w3 ⟨rfl, hb3⟩; have hbx3 := HB1.out.trans (hb3.mono HB1.out.size); have HB3 := Lib.hid hb3; have HX3 := Lib.hid hbx3; clear g2 g4 g5 e0 e1 hb3 hbx3; obtain ⟨g2, g4, g5⟩ := HBX.out w3 HX3.out; obtain ⟨e0, e1⟩ := HAB.out w3 HB3.out) | (go_at_call 36; refine (Rk.attr1 nm y hz1 hy1 hy2 _ _ HQ2.out).mono ?_; rintro r w4 ⟨rfl, hb4⟩; have hb34 := HB3.out.trans (hb4.mono HB3.out.size); have hbx4 := HX3.out.trans (hb4.mono HX3.out.size); have HB4 := Lib.hid hb34; have HX4 := Lib.hid hbx4; clear g2 g4 g5 e0 e1 hb4 hbx4 hb34; obtain ⟨g2, g4, g5⟩ := HBX.out w4 HX4.out; obtain ⟨e0, e1⟩ := HAB.out w4 HB4.out) | fail)
            go_roundw
            case rel => exact ⟨k + 1, _, by go_num, rfl, by omega, by rw [keep_no HD.out hkb]; exact aw_on HO.out HB4.out, HX4.out⟩
            case measure => simp [intOf]; omega
          | false =>
            have hkb : keepB c true nm y = true := HKB.out
            have HOW := Lib.hid (fun wx (hb : Below w1.heap.size w1 wx) => aw_on HO.out hb)
            go_upto_region 6 with (first | (show wpList _ _ _ (⟨_, Op.load 26 (.tmp 4), _, _, _, _⟩ :: _) _ _; refine wpList_load_mid rfl 26 (.tmp 4) rfl (w.heap.size + 1) 0 rfl _ _ g5 Try.underlying26 rfl Co.size_conf ?_) | (go_at_call 35; refine (Co.attr1 _ c nm y.name _ _ (HCV.out _ HB1.out) HSM.out hy1 HQ1.out).mono ?_; rintro r w3 ⟨rfl, hb3⟩; have hbx3 := HB1.out.trans (hb3.mono HB1.out.size); have HB3 := Lib.hid hb3; have HX3 := Lib.hid hbx3; clear g2 g4 g5 e0 e1 hb3 hbx3; obtain ⟨g2, g4, g5⟩ := HBX.out w3 HX3.out; obtain ⟨e0, e1⟩ := HAB.out w3 HB3.out) | (go_at_call 36; refine (Rk.attr1 nm y hz1 hy1 hy2 _ _ HQ2.out).mono ?_; rintro r w4 ⟨rfl, hb4⟩; have hb34 := HB3.out.trans (hb4.mono HB3.out.size); have hbx4 := HX3.out.trans (hb4.mono HX3.out.size); have HB4 := Lib.hid hb34; have HX4 := Lib.hid hbx4; clear g2 g4 g5 e0 e1 hb4 hbx4 hb34; obtain ⟨g2, g4, g5⟩ := HBX.out w4 HX4.out; obtain ⟨e0, e1⟩ := HAB.out w4 HB4.out) | fail)
            have how := HOW.out _ HB4.out
            clear HOW; have HOW := Lib.hid how
            clear how
            go_wp2_with (first | (at_builtin; refine app_attr _ rfl (.tmp 33) (.tmp 35) rfl w0.heap.size u _ y rfl HOW.out HS3.out _ rfl rfl (by omega) (by have := HX4.out.size; omega) ?_; intro v6 w6 ho6 hg6) | fail)
            go_roundw
            case rel =>
              refine ⟨k + 1, _, by go_num, rfl, by omega, by rw [keep_yes HD.out hkb]; exact ho6, ?_⟩
              exact HX4.out.grown hg6 HX4.out.size fun q hq => (World.ownsRow.lt HOW.out.1 q hq).1
            case measure => simp [intOf]; omega
    · have e : ats.take k = ats := List.take_of_length_le (by omega)
      rw [e] at ho
      have HO := Lib.hid ho; have HBL := Lib.hid hbel
      clear ho hbel
      go_wp2
      go_ret
      exact ⟨_, rfl, ⟨World.ownsRow.mono HO.out.1 hsz0, HO.out.2⟩, HB0.out.trans (HBL.out.mono hsz0)⟩

end Go.Proofs.Ytdjkeakagmgfgaa.Cn

namespace Go.Proofs.Ytdjkeakagmgfgaa.Cn
set_option maxRecDepth 100000
set_option linter.unusedVariables false
set_option linter.unusedSimpArgs false
open Go.RowKit Ba Ro
open Co (Cf Cv Sm confV confO attrB12 elementN bel_eq12)
open Rk (neverB)
set_option maxRecDepth 100000 in
set_option maxHeartbeats 2000000 in
theorem fate_any (x : Cw) (v : Value) (c : Cf) (s : Bool) (w : World) (q : Nat) (hc : Cv w w.heap.size v c) (hs : Sm c) (hq : fateN c s x.ro = q) :
    Calls Try.prog 65 #[rowV x, v, .bool s] w fun r w' => r = .returned (.int .i64 q) ∧ Below w.heap.size w w' := by
  obtain ⟨vE, vR, vA, vP, pl, rfl, hc⟩ := hc
  obtain ⟨⟨dep, kd, nm, dt, ats⟩, A, cc⟩ := x
  obtain ⟨al, aa, els, reps, cats, per, cm, da⟩ := c
  obtain ⟨w0, hw0⟩ : ∃ w0, (w.alloc (rowO ⟨⟨dep, kd, nm, dt, ats⟩, A, cc⟩)).alloc (confO ⟨al, aa, els, reps, cats, per, cm, da⟩ vE vR vA vP) = w0 := ⟨_, rfl⟩
  have hb0 : Below w.heap.size w w0 := hw0 ▸ below_two w _ _
  have hbb : Bb w0 w.heap.size ⟨⟨dep, kd, nm, dt, ats⟩, A, cc⟩ ⟨al, aa, els, reps, cats, per, cm, da⟩ vE vR vA vP := hw0 ▸ Bb.new w _ _ vE vR vA vP
  have HEL := Lib.hid (fun q (hq : elementN ⟨al, aa, els, reps, cats, per, cm, da⟩ nm = q) => Co.element1 (confV ⟨al, aa, els, reps, cats, per, cm, da⟩ vE vR vA vP) _ nm w0 q ⟨_, _, _, _, _, rfl, hc.on hb0⟩ hs hq)
  have HCF := Lib.hid hbb.cf
  have HW := Lib.hid hw0; have HB0 := Lib.hid hb0
  have g1 := hbb.row 1; have g2 := hbb.row 2
  simp only [cells, List.getElem?_cons_zero, List.getElem?_cons_succ] at g1 g2
  have c6 : w0.cell? ⟨w.heap.size + 1, 6, none⟩ = some (.bool cm) := hbb.cf 6 _ rfl
  clear hc hs hw0 hb0 hbb
  unfold fateN at hq
  simp only at hq
  go_enter Try.func65, Try.ntmps65
  go_upto_region 1 with (fail)
  rw [HW.out]
  clear HW
  by_cases h1 : kd = 1
  · rw [if_pos h1] at hq
    subst hq
    have k1 : (kd == 1) = true := by simpa using h1
    go_wp2
    go_ret
    exact ⟨rfl, HB0.out⟩
  rw [if_neg h1] at hq
  have k1 : (kd == 1) = false := by simpa using h1
  by_cases h2 : kd = 2
  · rw [if_pos h2] at hq
    have k2 : (kd == 2) = true := by simpa using h2
    cases cm with
    | true =>
      rw [if_pos rfl] at hq
      subst hq
      go_wp2
      go_ret
      exact ⟨rfl, HB0.out⟩
    | false =>
      rw [if_neg (by decide)] at hq
      subst hq
      go_wp2
      go_ret
      exact ⟨rfl, HB0.out⟩
  rw [if_neg h2] at hq
  have k2 : (kd == 2) = false := by simpa using h2
  obtain ⟨nv, hnv⟩ : ∃ b, neverB nm = b := ⟨_, rfl⟩
  rw [hnv] at hq
  have HNV := Lib.hid hnv
  clear hnv
  cases s with
  | false =>
    have HQ := Lib.hid (show elementN _ nm = q from hq)
    clear hq
    go_wp2_with (first
      | (show wpList _ _ _ (⟨_, Op.load 26 (.tmp 4), _, _, _, _⟩ :: _) _ _; refine wpList_load_mid rfl 26 (.tmp 4) rfl (w.heap.size + 1) 0 rfl _ _ HCF.out Try.underlying26 rfl Co.size_conf ?_)
      | (go_at_call 26; refine (HEL.out q HQ.out).mono ?_; rintro r w3 ⟨rfl, hb3⟩)
      | fail)
    go_ret
    exact ⟨rfl, HB0.out.trans (hb3.mono HB0.out.size)⟩
  | true =>
    cases nv with
    | true =>
      have hq : 1 = q := hq
      subst hq
      go_wp2_with (first
        | (go_at_call 75; refine (Rk.element1 nm _ true HNV.out).mono ?_; rintro r w3 ⟨rfl, rfl⟩)
        | fail)
      go_ret
      exact ⟨rfl, HB0.out⟩
    | false =>
      have HQ := Lib.hid (show elementN _ nm = q from hq)
      clear hq
      go_wp2_with (first
        | (show wpList _ _ _ (⟨_, Op.load 26 (.tmp 4), _, _, _, _⟩ :: _) _ _; refine wpList_load_mid rfl 26 (.tmp 4) rfl (w.heap.size + 1) 0 rfl _ _ HCF.out Try.underlying26 rfl Co.size_conf ?_)
        | (go_at_call 75; refine (Rk.element1 nm _ false HNV.out).mono ?_; rintro r w3 ⟨rfl, rfl⟩)
        | (go_at_call 26; refine (HEL.out q HQ.out).mono ?_; rintro r w3 ⟨rfl, hb3⟩)
        | fail)
      go_ret
      exact ⟨rfl, HB0.out.trans (hb3.mono HB0.out.size)⟩

end Go.Proofs.Ytdjkeakagmgfgaa.Cn

namespace Go.Proofs.Ytdjkeakagmgfgaa.Cn
set_option linter.unusedVariables false
set_option linter.unusedSimpArgs false
open Go.RowKit Ba Ro
/-- Rows of the call's own, their attributes too. -/
def Od (N : Nat) (w : World) (v : Value) (l : List Cw) : Prop := w.ownsRow N 36 5 v l.length (l.flatMap cells) ∧ ∀ x ∈ l, Fr N w x
theorem Od.ow {N : Nat} {w : World} {v : Value} {l : List Cw} (h : Od N w v l) : Ow N w v l := ⟨h.1, fun x hx => ⟨(h.2 x hx).att, (h.2 x hx).ap⟩⟩
theorem Od.nil (N : Nat) (w : World) : Od N w (.slice none 0 0) [] := ⟨World.ownsRow_nil w N _ 5, fun _ h => by simp at h⟩
theorem Od.made (w : World) : Od w.heap.size (w.alloc (.cells #[] 36)) (.slice (some ⟨w.heap.size, 0, none⟩) 0 0) [] :=
  ⟨World.ownsRow_made w #[] 0 (Nat.le_refl _) (Nat.zero_le _) rfl, fun _ h => by simp at h⟩
theorem Od.grown {N b : Nat} {w w' : World} {v : Value} {l : List Cw} (h : Od N w v l) (hg : w.grownBy w' (some b)) (hb : b < N) : Od N w' v l :=
  ⟨Co.row_elder h.1 hg (fun q hq => by injection hq with hq; omega), fun x hx => ⟨Co.row_elder (h.2 x hx).1 hg (fun q hq => by injection hq with hq; omega), (h.2 x hx).2⟩⟩
theorem Od.below {N : Nat} {w w' : World} {v : Value} {l : List Cw} (h : Od N w v l) (hb : Below w.heap.size w w') : Od N w' v l := ⟨(h.ow.below hb).1, fun x hx => (h.2 x hx).below hb⟩
theorem Od.mono {N M : Nat} {w : World} {v : Value} {l : List Cw} (h : Od N w v l) (hN : M ≤ N) : Od M w v l := ⟨World.ownsRow.mono h.1 hN, fun x hx => ⟨World.ownsRow.mono (h.2 x hx).1 hN, (h.2 x hx).2⟩⟩
theorem below_grown {w w1 : World} (b : Nat) (hb : Below w.heap.size w w1) : w.grownBy w1 (some b) := ⟨hb.os, hb.tape, hb.output, hb.size, fun k hk _ => hb.block k hk⟩

theorem rr_on {w w' : World} {A : Option Addr} {l : List Cw} (h : Rr w w.heap.size A l) (hb : Below w.heap.size w w') : Rr w' w'.heap.size A l := (h.below hb).more hb.size
/-- A block of this type that holds these. -/
def Hv (t : TypeId) (w : World) (g : Nat) (cs : Array Value) : Prop := w.heap[g]? = some (.cells cs t)
theorem Hv.new (t : TypeId) (w : World) (cs : Array Value) : Hv t (w.alloc (.cells cs t)) w.heap.size cs := heap_alloc_new w _
theorem Hv.keep {t : TypeId} {w w' : World} {g : Nat} {cs : Array Value} (h : Hv t w g cs) (hb : w'.heap[g]? = w.heap[g]?) : Hv t w' g cs := hb.trans h
theorem Hv.lt {t : TypeId} {w : World} {g : Nat} {cs : Array Value} (h : Hv t w g cs) : g < w.heap.size := (Array.getElem?_eq_some_iff.1 h).1
theorem Hv.on {t : TypeId} {w w' : World} {g : Nat} {cs : Array Value} (h : Hv t w g cs) (hb : Below w.heap.size w w') : Hv t w' g cs := h.keep (hb.block g h.lt)
theorem Hv.set {t : TypeId} {w : World} {g : Nat} {cs : Array Value} (h : Hv t w g cs) (j : Nat) (u : Value) : Hv t (w.setCell ⟨g, j, none⟩ u) g (cs.setIfInBounds j u) := by
  unfold Hv at h ⊢
  simp [World.setCell, Array.getElem?_modify, h]
theorem Hv.other {t : TypeId} {w : World} {g b : Nat} {cs : Array Value} (h : Hv t w g cs) (j : Nat) (u : Value) (hne : g ≠ b) : Hv t (w.setCell ⟨b, j, none⟩ u) g cs := h.keep (Below.heap_setCell _ _ _ _ hne)
theorem Hv.cell {t : TypeId} {w : World} {g : Nat} {cs : Array Value} (h : Hv t w g cs) (j : Nat) (u : Value) (hu : cs[j]? = some u) : w.cell? ⟨g, j, none⟩ = some u := by
  rw [cell_of_row w g j _ _ _ h]
  exact hu
theorem Hv.f {t : TypeId} {w : World} {g : Nat} {cs : Array Value} (h : Hv t w g cs) (j : Nat) : w.frozen? ⟨g, j, none⟩ = false := by
  unfold Hv at h
  simp [World.frozen?, h]
theorem Hv.there {t : TypeId} {w : World} {g : Nat} {cs : Array Value} (h : Hv t w g cs) (n : Nat) (hn : n = cs.size) : w.there g 0 n := fun j hj => by
  rw [Nat.zero_add]
  exact ⟨by rw [h.cell j _ (Array.getElem?_eq_getElem (hn ▸ hj))]; rfl, h.f j⟩
theorem Hv.range {t : TypeId} {w : World} {g : Nat} {cs : Array Value} (h : Hv t w g cs) : w.rangeAt g 0 cs.toList := fun j u hu => by
  rw [Nat.zero_add]
  exact h.cell j u (by rwa [Array.getElem?_toList] at hu)
/-- An array of 61 numbers that reads as D. -/
def Db (w : World) (b : Nat) (D : Int → Int) : Prop := ∃ cs, Hv 76 w b cs ∧ ∀ j : Nat, j < 61 → cs[j]? = some (.int .i64 (D j))
theorem Db.keep {w w' : World} {b : Nat} {D : Int → Int} (h : Db w b D) (hb : w'.heap[b]? = w.heap[b]?) : Db w' b D := by
  obtain ⟨cs, h, hc⟩ := h
  exact ⟨cs, h.keep hb, hc⟩
theorem Db.lt {w : World} {b : Nat} {D : Int → Int} (h : Db w b D) : b < w.heap.size := by
  obtain ⟨cs, h, _⟩ := h
  exact h.lt
theorem Db.on {w w' : World} {b : Nat} {D : Int → Int} (h : Db w b D) (hb : Below w.heap.size w w') : Db w' b D := h.keep (hb.block b h.lt)
theorem Db.cell {w : World} {b : Nat} {D : Int → Int} (h : Db w b D) (j : Nat) (hj : j < 61) : w.cell? ⟨b, j, none⟩ = some (.int .i64 (D j)) := by
  obtain ⟨cs, h, hc⟩ := h
  exact h.cell j _ (hc j hj)
theorem Db.f {w : World} {b : Nat} {D : Int → Int} (h : Db w b D) (j : Nat) : w.frozen? ⟨b, j, none⟩ = false := by
  obtain ⟨cs, h, hc⟩ := h
  exact h.f j
theorem Db.set {w : World} {b : Nat} {D : Int → Int} (h : Db w b D) (j : Nat) (v : Int) : Db (w.setCell ⟨b, j, none⟩ (.int .i64 v)) b (put_ D j v) := by
  obtain ⟨cs, h, hc⟩ := h
  refine ⟨_, h.set j (.int .i64 v), fun i hi => ?_⟩
  have hs : 61 ≤ cs.size := by
    have := (Array.getElem?_eq_some_iff.1 (hc 60 (by omega))).1
    omega
  rw [Array.getElem?_setIfInBounds]
  unfold put_
  by_cases e : j = i
  · subst e
    rw [if_pos rfl, if_pos (by omega), if_pos rfl]
  · rw [if_neg e, if_neg (by omega)]
    exact hc i hi

end Go.Proofs.Ytdjkeakagmgfgaa.Cn
