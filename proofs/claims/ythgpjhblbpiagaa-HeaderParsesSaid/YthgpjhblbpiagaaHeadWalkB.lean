/-
  Walks of stage 15: header.firsts and the function that it makes.
-/
import Derived.Test.YthgpjhblbpiagaaHeadOwn
import Derived.Maps.OwnOps
namespace Go.Proofs.Ythgpjhblbpiagaa.He
set_option maxRecDepth 100000
set_option linter.unusedSimpArgs false
set_option linter.unusedVariables false
open Go.RowKit Ba Fm Fo Go.Maps

/-- The function: its captured box lies at p. -/
def fnV (p : Nat) : Value := .func (.func 33) #[] #[.pointer (some ⟨p, 0, none⟩)]

set_option maxHeartbeats 1000000 in
theorem firsts_any (w : World) :
    Calls Try.prog 24 #[] w fun e w' => e = .returned (fnV (w.heap.size + 1)) ∧ Fi w' (w.heap.size + 1) w.heap.size [] ∧ Below w.heap.size w w' := by
  have hmf : ∀ (fn : Fn) (first cap : Array Value) (w : World), (Instr.makeFunc fn first cap).run Try.prog w = .ok (.func fn first cap) w := fun _ _ _ _ => rfl
  have hmm := @run_makeMap Try.prog
  go_enter Try.func24, Try.ntmps24
  go_wp2
  go_ret
  refine ⟨rfl, ⟨?_, ?_⟩, ((Below.refl _ _).alloc (Nat.le_refl _) _).alloc (by simp) _⟩
  · rw [World.cell?_alloc_at _ _ _ _ (by simp)]
    rfl
  · exact (World.ownsMap_made _ _ _ _).alloc _

set_option maxHeartbeats 1000000 in
theorem first_any (s : ByteArray) (p m : Nat) (l : List ByteArray) (w : World) (hs : s.size ≤ 140737488355328) (h : Fi w p m l) (hl : l.length ≤ 2000000) (q : Bool) (hq : isIn s l = q) :
    Calls Try.prog 33 #[.string s, .pointer (some ⟨p, 0, none⟩)] w fun e w' => e = .returned (.bool (!q)) ∧ Fi w' p m (l ++ [s]) ∧ w.grownBy w' (some m) := by
  have hkey := key_str s hs
  have hhas := has_setD l s
  rw [hq] at hhas
  have hbox := h.box
  have hp := h.lt.2
  have hm := h.lt.1
  have hset := h.set
  have hset1 : (w.alloc (.cells #[] 44)).ownsMap Try.prog 9 (unitElem (H := Unit)) m l.length (setD l) := hset.alloc _
  have hne := h.ne
  have HQ := Lib.hid hq; have HS := Lib.hid hset; have HS1 := Lib.hid hset1; have HH := Lib.hid hhas; have HK := Lib.hid hkey; have HN := Lib.hid hne
  clear hq hset hset1 hhas hkey hne h
  go_enter Try.func33, Try.ntmps33
  go_wp2_with (first
    | (at_lookup; refine wpList_lookup_own_unit _ rfl _ _ 43 rfl 9 44 law_str Try.underlying43 (zero_unit _) m l.length _ rfl HS.out _ _ rfl HK.out ?_; rw [HH.out])
    | (at_mapUpdate; refine wpList_mapUpdate_own _ rfl _ _ _ 43 rfl 9 44 law_str Try.underlying43 (unitElem (H := Unit)) m l.length _ rfl HS1.out (by unfold maxLen; omega) _ _ _ rfl rfl HK.out _ [] unitElem_mk ?_; intro w1 hown1 hgrow1))
  go_ret
  have hg : w.grownBy w1 (some m) := grown_two (World.grownBy_alloc _ _ _) hgrow1
  refine ⟨rfl, ⟨hg.cell hbox (by simpa using HN.out), ?_⟩, hg⟩
  rw [List.length_append, setD_snoc]
  exact hown1

end Go.Proofs.Ythgpjhblbpiagaa.He
