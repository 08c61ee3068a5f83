/-
  Walks of stage 4: repeated, validRow, valid, Check.
-/
import Derived.Test.YtblefklfgaohfaaRowWalkB
import Derived.Test.YtblefklfgaohfaaRowKeys
namespace Go.Proofs.Ytblefklfgaohfaa.Ro
set_option linter.unusedVariables false
set_option linter.unusedSimpArgs false
open Go.RowKit Ba Go.Maps Go.WideMaps

theorem lawK : Keyed Try.prog 9 := string_keyed Try.underlying9

theorem run_makeMap_hint {P : Program} {t k e : TypeId} (ht : P.underlying t = some (.map k e)) (q : IntKind) (n : Int) (w : World) : (Instr.makeMap t (some (.int q n))).run P w = .ok (.map (some w.heap.size)) (w.alloc (.map #[] 0)) := by
  simp [Instr.makeMap, run_underlying ht, asInt, asIntOf]

set_option maxRecDepth 100000 in
theorem repeated_any (A : Option Addr) (c : Nat) (l : List At) (w : World) (hr : Ra w w.heap.size A l) (hc : l.length ≤ c) (hs : Sh l) (hm : c ≤ maxLen) :
    Calls Try.prog 53 #[.slice A l.length c] w fun e w' => e = .returned (.bool (twice l)) ∧ Below w.heap.size w w' := by
  unfold maxLen at hm
  by_cases h2 : l.length < 2
  · have e : twice l = false := by
      match l, h2 with
      | [], _ => rfl
      | [a], _ => rfl
    rw [e]
    clear e
    have h2' : (l.length : Int) < 2 := by omega
    go_enter Try.func53, Try.ntmps53
    go_wp2
    go_ret
    exact ⟨rfl, Below.refl _ _⟩
  · have h2' : decide ((l.length : Int) < 2) = false := decide_eq_false (by omega)
    have hmm := fun q n w => run_makeMap_hint Try.underlying62 q n w
    have HL := Lib.hid (names_less (H := Unit) l)
    go_enter Try.func53, Try.ntmps53
    go_wp2
    go_loopw [14] (fun i wr => ∃ k : Nat, i = .int .i64 k ∧ k ≤ l.length ∧ wr.ownsMap Try.prog 9 (unitElem (H := Unit)) w.heap.size k (names (l.take k)) ∧ Below w.heap.size w wr) (fun i _ => l.length - (intOf i).toNat)
    case atStart => exact ⟨0, rfl, by omega, World.ownsMap_made _ _ _ _, (Below.refl _ _).alloc (Nat.le_refl _) _⟩
    case round =>
      clear hmm
      obtain ⟨k, rfl, hk, hown, hbel⟩ := hrel
      have hsz := hbel.size
      by_cases hp : k < l.length
      · obtain ⟨b, off, x, rfl, hb, hd, hx, hxm⟩ := (hr.below hbel).at_ k hp
        have hkey : keyOf Try.prog 9 (.string x.name) = some (key x) := keyOf_string_mk Try.underlying9 (hs x hxm)
        have htk : l.take (k + 1) = l.take k ++ [x] := by
          rw [List.take_add_one, getElem_of_drop hd]
          rfl
        have HT := Lib.hid htk
        clear hd htk
        go_wp2_with (first | (refine wpList_load_mid rfl 46 (.tmp 16) rfl b (off + k * 2) rfl _ _ hx Try.underlying46 rfl size_attr ?_) | (at_mapUpdate; refine wpList_mapUpdate_own _ rfl _ _ _ 62 rfl 9 63 lawK Try.underlying62 (unitElem (H := Unit)) w.heap.size k _ rfl (hown.alloc _) (by unfold maxLen; omega) _ _ _ rfl rfl hkey _ [] unitElem_mk ?_; intro w1 hown1 hgrow1))
        go_roundw
        case rel => exact ⟨k + 1, by go_num, by omega, by rw [HT.out, names_snoc]; exact hown1, (hbel.alloc hsz _).grown hgrow1 (by simp; omega) (fun j hj => by cases hj; exact Nat.le_refl _)⟩
        case measure => simp [intOf]; omega
      · rw [List.take_of_length_le (by omega)] at hown
        go_wp2_with (at_len; refine wpList_len_own _ rfl _ 62 rfl 9 63 Try.underlying62 (unitElem (H := Unit)) w.heap.size k (names l) rfl hown ?_)
        go_ret
        exact ⟨ret_bool (by rw [← HL.out]), hbel⟩

end Go.Proofs.Ytblefklfgaohfaa.Ro
