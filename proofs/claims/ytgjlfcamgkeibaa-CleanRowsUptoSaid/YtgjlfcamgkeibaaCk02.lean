/-
  Walks of stage 4: boltingref04.Moved, Join; rows.appendMoved; boltinglaw04.bound.
  Walks of stage 4: boltinglaw04.bound, boltingref04.Join; append of rows onto rows.
  The text of rows, and rows with their texts joined, in plain words.
  Slices of bytes of the call's own: what they hold, the string of them. For every stage.
  Walks of stage 4: joined, Text, textsEnd; boltingref04.Text.
  Walks of stage 4: textsEnd, Normal.
  Walks of stage 4: boltingref04.Normal.
  Walks of stage 4: sameAttrs, sameRow, Same; boltingref04.Attrs, Same.
  Walks of stage 4: sameRow, Same; boltingref04.Same.
  Walks of stage 4: boltingref04.Same.
  Walks of stage 4: placeOf.
  Walks of stage 4: nums; Kids and its reference out of range; Take, Drop.
  Walks of stage 4: Put and its reference.
  Walks of stage 4: the reference's Put.
  A value that reads as rows (Rv), and the contracts of Check, Same, Normal over it.
  Walks of stage 4: the fixed rows.
  Walks of stage 4: the fixed samples.
  Stage 4, plain: what right rows are; the parent in two ways.
  Arguments that are slices of structs, or structs, as a statement's row reads them: for rows, tokens and whatever has attributes.
-/
import Derived.Test.YtgjlfcamgkeibaaCk01
import Derived.StillTailTactics
import Derived.Deep.RegionHeld3
import Derived.Deep.CutRange
import Derived.Laws.StructEq
import Derived.Deep.RegionWith
import Derived.Shelf.RegionOpen
import Derived.Laws.MakeOwn
import Derived.Deep.DeepCutAuto
import Derived.Test.YtgjlfcamgkeibaaRows
import Derived.Deep.Slices
import Derived.Deep.Fields
import Derived.ChangeSame
import Derived.ProofKit
import Derived.Carry
import Derived.Lib.SmallJoins
namespace Go.Proofs.Ytgjlfcamgkeibaa.Ro
set_option maxRecDepth 100000
set_option linter.unusedVariables false
set_option linter.unusedSimpArgs false
open Go.RowKit Ba
/-- Rows so much deeper. -/
def deeper (by_ : Int) (l : List Ro) : List Ro := l.map fun x => { x with depth := x.depth + by_ }
theorem deeper_snoc (d : Int) (l : List Ro) (x : Ro) : deeper d (l ++ [x]) = deeper d l ++ [{ x with depth := x.depth + d }] := by simp [deeper]
/-- No row has more attributes than that. -/
def Few (l : List Ro) : Prop := ∀ x ∈ l, x.attrs.length ≤ 1000000
theorem Few.at_ {l : List Cw} (h : Few (ros l)) {x : Cw} (hx : x ∈ l) : x.ro.attrs.length ≤ 1000000 := h _ (List.mem_map.2 ⟨x, hx, rfl⟩)
/-- So much deeper they do not wrap. -/
def Fits (by_ : Int) (l : List Ro) : Prop := ∀ x ∈ l, -9223372036854775808 ≤ x.depth + by_ ∧ x.depth + by_ ≤ 9223372036854775807
theorem Fits.at_ {d : Int} {l : List Cw} (h : Fits d (ros l)) {x : Cw} (hx : x ∈ l) : -9223372036854775808 ≤ x.ro.depth + d ∧ x.ro.depth + d ≤ 9223372036854775807 := h _ (List.mem_map.2 ⟨x, hx, rfl⟩)

theorem Fr.mono {N N' : Nat} {w : World} {x : Cw} (h : Fr N w x) (hN : N' ≤ N) : Fr N' w x := ⟨World.ownsRow.mono h.1 hN, h.2⟩
theorem Fr.set {N : Nat} {w : World} {x : Cw} {p : Addr} {u : Value} (h : Fr N w x) (hp : p.block < N) : Fr N (w.setCell p u) x := by
  refine ⟨⟨h.1.1, ?_⟩, h.2⟩
  rcases h.1.2 with hn | ⟨g, cap, cur, hv, hg, hh, rest⟩
  · exact .inl hn
  · exact .inr ⟨g, cap, cur, hv, hg, (Below.heap_setCell w p u g (by omega)).trans hh, rest⟩
/-- A box that is kept. -/
theorem box_block {w w2 : World} {x : Cw} (hb : Below (w.heap.size + 1) (w.alloc (rowO x)) w2) :
    w2.cell? ⟨w.heap.size, 0, none⟩ = some (.int .i64 x.ro.depth) ∧ w2.cell? ⟨w.heap.size, 1, none⟩ = some (.int .i64 x.ro.kind) ∧ w2.cell? ⟨w.heap.size, 2, none⟩ = some (.string x.ro.name) ∧ w2.cell? ⟨w.heap.size, 3, none⟩ = some (.string x.ro.data) ∧ w2.cell? ⟨w.heap.size, 4, none⟩ = some (.slice x.A x.ro.attrs.length x.c) ∧ w2.frozen? ⟨w.heap.size, 4, none⟩ = false ∧ Below w.heap.size w w2 := by
  have hc : ∀ j, w2.cell? ⟨w.heap.size, j, none⟩ = (cells x)[j]? := fun j => (hb.cell (p := ⟨w.heap.size, j, none⟩) (by simp)).trans (box_at w x j)
  refine ⟨hc 0, hc 1, hc 2, hc 3, hc 4, ?_, (below_new w _).trans (hb.mono (by omega))⟩
  rw [hb.frozen (p := ⟨w.heap.size, 4, none⟩) (by simp)]
  unfold World.frozen?
  rw [heap_alloc_new]
  rfl
abbrev deep1 (d : Int) (x : Cw) : Cw := ⟨⟨x.ro.depth + d, x.ro.kind, x.ro.name, x.ro.data, x.ro.attrs⟩, x.A, x.c⟩
abbrev deep2 (d : Int) (x : Cw) (A : Option Addr) (c : Nat) : Cw := ⟨⟨x.ro.depth + d, x.ro.kind, x.ro.name, x.ro.data, x.ro.attrs⟩, A, c⟩
theorem own_attr0 (w : World) (o : Obj) : ((w.alloc o).alloc (.cells #[] 40)).ownsRow (w.heap.size + 1) 40 2 (.slice (some ⟨w.heap.size + 1, 0, none⟩) 0 0) 0 [] := by
  have h : (w.alloc o).heap.size = w.heap.size + 1 := by simp
  have := World.ownsRow_made (base := (w.alloc o).heap.size) (e := 40) (size := 2) (w.alloc o) #[] 0 (Nat.le_refl _) (Nat.zero_le _) rfl
  rwa [h] at this
theorem after_attrs {w w2 : World} {o o2 : Obj} (hg : ((w.alloc o).alloc o2).grownBy w2 (some (w.heap.size + 1))) : Below (w.heap.size + 1) (w.alloc o) w2 := by
  have h := below_new (w.alloc o) o2
  have e : (w.alloc o).heap.size = w.heap.size + 1 := by simp
  rw [e] at h
  exact h.grown hg (by simp) fun k hk => by injection hk with hk; omega
/-- What a copied row is, in the world where its attributes have been stored into its box. -/
theorem copied {N : Nat} {w w2 : World} {d : Int} {x : Cw} {A : Option Addr} {c : Nat} {v : Value} {acc : List Cw} (hN : N ≤ w.heap.size) (hb : Below w.heap.size w w2) (hf : Fr (w.heap.size + 1) w2 (deep2 d x A c)) (hown : Ow N w v acc) (hfr : ∀ x ∈ acc, Fr N w x) (u : Value) :
    Ow N (w2.setCell ⟨w.heap.size, 4, none⟩ u) v acc ∧ (∀ x ∈ acc, Fr N (w2.setCell ⟨w.heap.size, 4, none⟩ u) x) ∧ Att (w2.setCell ⟨w.heap.size, 4, none⟩ u) (w2.setCell ⟨w.heap.size, 4, none⟩ u).heap.size (deep2 d x A c) ∧ Ap (w2.setCell ⟨w.heap.size, 4, none⟩ u) N (deep2 d x A c) ∧ Fr N (w2.setCell ⟨w.heap.size, 4, none⟩ u) (deep2 d x A c) ∧ N ≤ (w2.setCell ⟨w.heap.size, 4, none⟩ u).heap.size ∧ Below w.heap.size w (w2.setCell ⟨w.heap.size, 4, none⟩ u) := by
  have hb' : Below w.heap.size w (w2.setCell ⟨w.heap.size, 4, none⟩ u) := hb.setCell (Nat.le_refl _) _
  have hf' := (hf.set (p := ⟨w.heap.size, 4, none⟩) (u := u) (Nat.lt_succ_self _)).mono (N' := N) (by omega)
  exact ⟨hown.below hb', fun x hx => (hfr x hx).below hb', hf'.att, hf'.ap, hf', Nat.le_trans hN hb'.size, hb'⟩

set_option maxRecDepth 100000 in
set_option maxHeartbeats 1000000 in
theorem Moved_any (A : Option Addr) (c : Nat) (l : List Cw) (d : Int) (w : World) (hr : Rr w w.heap.size A l) (hc : l.length ≤ c) (hm : l.length ≤ 1000000) (hf : Few (ros l)) (hd : Fits d (ros l)) :
    Calls Try.prog 7 #[.slice A l.length c, .int .i64 d] w fun e w' => ∃ v l', e = .returned v ∧ Ow w.heap.size w' v l' ∧ (∀ x ∈ l', Fr w.heap.size w' x) ∧ ros l' = deeper d (ros l) ∧ Below w.heap.size w w' := by
  go_enter Try.func7, Try.ntmps7
  go_wp2
  go_loopw [5, 6] (fun v i wr => ∃ (k : Nat) (acc : List Cw), i = .int .i64 k ∧ k ≤ l.length ∧ acc.length = k ∧ Ow w.heap.size wr v acc ∧ (∀ x ∈ acc, Fr w.heap.size wr x) ∧ ros acc = deeper d (ros (l.take k)) ∧ Below w.heap.size w wr) (fun _ i _ => l.length - (intOf i).toNat)
  case atStart => exact ⟨0, [], rfl, by omega, rfl, Ow.made w, fun _ h => by simp at h, rfl, below_new w _⟩
  case round =>
    obtain ⟨k, acc, rfl, hk, hal, hown, hfr, hros, hbel⟩ := hrel
    have hsz := hbel.size
    by_cases hp : k < l.length
    · obtain ⟨b, off, x, rfl, hb, hdx, hx, hxa, hxm⟩ := (hr.below hbel).at_ k hp
      have hfew : x.ro.attrs.length ≤ 2000000 := Nat.le_trans (hf.at_ hxm) (by decide)
      obtain ⟨hw1, hw2⟩ := hd.at_ hxm
      have hs : ros acc ++ [{ x.ro with depth := x.ro.depth + d }] = deeper d (ros (l.take (k + 1))) := by
        rw [hros, List.take_add_one, getElem_of_drop hdx, ros_append, ← deeper_snoc]
        rfl
      have HS := Lib.hid hs
      have HOW := Lib.hid hown; have HFR := Lib.hid hfr
      have HAT : Hid (Att ((wr.alloc (rowO (deep1 d x))).alloc (.cells #[] 40)) ((wr.alloc (rowO (deep1 d x))).alloc (.cells #[] 40)).heap.size (deep1 d x)) := Lib.hid (((show Att wr w.heap.size (deep1 d x) from hxa).boxed hbel (rowO (deep1 d x))).boxed (Below.refl _ _) (.cells #[] 40))
      have hacc : acc.length ≤ 2000000 := by omega
      have HAL := Lib.hid hal
      clear hros hdx hs hown hfr hxa hal
      go_wp2_with (first
        | (refine wpList_load_mid rfl 36 (.tmp 17) rfl b (off + k * 5) rfl _ _ hx Try.underlying36 rfl size_row ?_)
        | (at_builtin; refine app_attrs _ rfl (.tmp 24) (.tmp 26) rfl (wr.heap.size + 1) (.slice (some ⟨wr.heap.size + 1, 0, none⟩) 0 0) (deep1 d x) rfl (own_attr0 wr _) rfl HAT.out hfew (by simp) ?_; intro A' c' w2 hf2 hg2
           obtain ⟨q0, q1, q2, q3, q4, q5, hb2⟩ := box_block (after_attrs (w := wr) (o := rowO (deep1 d x)) (o2 := .cells #[] 40) hg2)
           have HF2 := Lib.hid hf2; have HB2 := Lib.hid hb2
           clear hf2 hb2 hg2)
        | (at_builtin; refine app_row _ rfl (.tmp 29) (.tmp 31) rfl w.heap.size _ acc (deep2 d x A' c') rfl (copied hsz HB2.out HF2.out HOW.out HFR.out _).1 (copied hsz HB2.out HF2.out HOW.out HFR.out _).2.2.1 (copied hsz HB2.out HF2.out HOW.out HFR.out _).2.2.2.1 w2.heap.size (by simp) rfl hacc (copied hsz HB2.out HF2.out HOW.out HFR.out _).2.2.2.2.2.1 ?_; intro v3 w3 ho3 hk3 hf3))
      go_roundw
      case rel =>
        have C := copied hsz HB2.out HF2.out HOW.out HFR.out (.slice A' x.ro.attrs.length c')
        exact ⟨k + 1, acc ++ [deep2 d x A' c'], by go_num, by omega, by rw [List.length_append, HAL.out]; rfl, ho3, fun z hz => (by
          rcases List.mem_append.1 hz with h | h
          · exact hf3 z (C.2.1 z h)
          · obtain rfl := List.mem_singleton.1 h
            exact hf3 _ C.2.2.2.2.1), by rw [ros_append]; exact HS.out, hk3 w (hbel.trans (C.2.2.2.2.2.2.mono hsz))⟩
      case measure => simp [intOf]; omega
    · rw [List.take_of_length_le (by omega)] at hros
      have HR := Lib.hid hros
      clear hros
      go_wp2
      go_ret
      exact ⟨_, acc, rfl, hown, hfr, HR.out, hbel⟩

theorem after_attrs0 {w w2 : World} {o : Obj} (hg : (w.alloc o).grownBy w2 none) : Below (w.heap.size + 1) (w.alloc o) w2 := by
  have h := Below.refl (w.alloc o).heap.size (w.alloc o)
  have e : (w.alloc o).heap.size = w.heap.size + 1 := by simp
  rw [e] at h
  exact h.grown hg (by simp) fun k hk => by cases hk
theorem Att.boxN {w : World} {N : Nat} {x : Cw} (h : Att w N x) (hN : N ≤ w.heap.size) (o : Obj) : Att (w.alloc o) (w.alloc o).heap.size x := ((h.more hN).below (below_new w o)).more (by simp)

set_option maxRecDepth 100000 in
set_option maxHeartbeats 1000000 in
theorem appendMoved_any (N : Nat) (v0 : Value) (acc0 : List Cw) (A : Option Addr) (c : Nat) (l : List Cw) (d : Int) (w : World) (hN : N ≤ w.heap.size) (hown0 : Ow N w v0 acc0) (hfr0 : ∀ x ∈ acc0, Fr N w x) (hacc0 : acc0.length ≤ 1000000) (hr : Rr w N A l) (hc : l.length ≤ c) (hm : l.length ≤ 1000000) (hf : Few (ros l)) (hd : Fits d (ros l)) :
    Calls Try.prog 65 #[v0, .slice A l.length c, .int .i64 d] w fun e w' => ∃ v l', e = .returned v ∧ Ow N w' v l' ∧ (∀ x ∈ l', Fr N w' x) ∧ ros l' = ros acc0 ++ deeper d (ros l) ∧ Below N w w' := by
  go_enter Try.func65, Try.ntmps65
  go_wp2
  go_loopw [0, 11] (fun v i wr => ∃ (k : Nat) (acc : List Cw), i = .int .i64 k ∧ k ≤ l.length ∧ acc.length = acc0.length + k ∧ Ow N wr v acc ∧ (∀ x ∈ acc, Fr N wr x) ∧ ros acc = ros acc0 ++ deeper d (ros (l.take k)) ∧ Below N w wr) (fun _ i _ => l.length - (intOf i).toNat)
  case atStart => exact ⟨0, acc0, rfl, by omega, rfl, hown0, hfr0, by rw [List.take_zero]; exact (List.append_nil _).symm, Below.refl _ _⟩
  case round =>
    clear hown0 hfr0
    obtain ⟨k, acc, rfl, hk, hal, hown, hfr, hros, hbel⟩ := hrel
    have hsz : N ≤ wr.heap.size := Nat.le_trans hN hbel.size
    by_cases hp : k < l.length
    · obtain ⟨b, off, x, rfl, hb, hdx, hx, hxa, hxm⟩ := (hr.below hbel).at_ k hp
      have hfew : x.ro.attrs.length ≤ 2000000 := Nat.le_trans (hf.at_ hxm) (by decide)
      obtain ⟨hw1, hw2⟩ := hd.at_ hxm
      have hs : ros acc ++ [{ x.ro with depth := x.ro.depth + d }] = ros acc0 ++ deeper d (ros (l.take (k + 1))) := by
        rw [hros, List.take_add_one, getElem_of_drop hdx, ros_append, List.append_assoc, ← deeper_snoc]
        rfl
      have HS := Lib.hid hs
      have HOW := Lib.hid hown; have HFR := Lib.hid hfr
      have HAT : Hid (Att (wr.alloc (rowO (deep1 d x))) (wr.alloc (rowO (deep1 d x))).heap.size (deep1 d x)) := Lib.hid ((show Att wr N (deep1 d x) from hxa).boxN hsz (rowO (deep1 d x)))
      have hacc : acc.length ≤ 2000000 := by omega
      have HAL := Lib.hid hal
      clear hros hdx hs hown hfr hxa hal
      go_wp2_with (first
        | (refine wpList_load_mid rfl 36 (.tmp 13) rfl b (off + k * 5) rfl _ _ hx Try.underlying36 rfl size_row ?_)
        | (at_builtin; refine app_attrs _ rfl (.const (.slice none 0 0)) (.tmp 21) rfl (wr.heap.size + 1) (.slice none 0 0) (deep1 d x) rfl (World.ownsRow_nil _ _ _ _) rfl HAT.out hfew (by simp) ?_; intro A' c' w2 hf2 hg2
           obtain ⟨q0, q1, q2, q3, q4, q5, hb2⟩ := box_block (after_attrs0 (w := wr) (o := rowO (deep1 d x)) hg2)
           have HF2 := Lib.hid hf2; have HB2 := Lib.hid hb2
           clear hf2 hb2 hg2)
        | (at_builtin; refine app_row _ rfl (.tmp 24) (.tmp 26) rfl N _ acc (deep2 d x A' c') rfl (copied hsz HB2.out HF2.out HOW.out HFR.out _).1 (copied hsz HB2.out HF2.out HOW.out HFR.out _).2.2.1 (copied hsz HB2.out HF2.out HOW.out HFR.out _).2.2.2.1 w2.heap.size (by simp) rfl hacc (copied hsz HB2.out HF2.out HOW.out HFR.out _).2.2.2.2.2.1 ?_; intro v3 w3 ho3 hk3 hf3))
      go_roundw
      case rel =>
        have C := copied hsz HB2.out HF2.out HOW.out HFR.out (.slice A' x.ro.attrs.length c')
        exact ⟨k + 1, acc ++ [deep2 d x A' c'], by go_num, by omega, by rw [List.length_append, HAL.out]; rfl, ho3, fun z hz => (by
          rcases List.mem_append.1 hz with h | h
          · exact hf3 z (C.2.1 z h)
          · obtain rfl := List.mem_singleton.1 h
            exact hf3 _ C.2.2.2.2.1), by rw [ros_append]; exact HS.out, hk3 w (hbel.trans (C.2.2.2.2.2.2.mono hsz))⟩
      case measure => simp [intOf]; omega
    · rw [List.take_of_length_le (by omega)] at hros
      have HR := Lib.hid hros
      clear hros
      go_wp2
      go_ret
      exact ⟨_, acc, rfl, hown, hfr, HR.out, hbel⟩

theorem Few.append {a b : List Ro} (ha : Few a) (hb : Few b) : Few (a ++ b) := fun x hx => (List.mem_append.1 hx).elim (ha x) (hb x)
theorem Few.deeper {a : List Ro} (ha : Few a) (d : Int) : Few (deeper d a) := fun x hx => by
  obtain ⟨y, hy, rfl⟩ := List.mem_map.1 hx
  exact ha y hy
theorem deeper_zero (l : List Ro) : deeper 0 l = l := by
  unfold deeper
  rw [List.map_congr_left (g := id) fun x _ => by simp]
  exact List.map_id l
/-- Depths that an int64 holds. -/
def Held (l : List Ro) : Prop := ∀ x ∈ l, -9223372036854775808 ≤ x.depth ∧ x.depth ≤ 9223372036854775807
theorem Held.fits {l : List Ro} (h : Held l) : Fits 0 l := fun x hx => by have := h x hx; omega
theorem Held.append {a b : List Ro} (ha : Held a) (hb : Held b) : Held (a ++ b) := fun x hx => (List.mem_append.1 hx).elim (ha x) (hb x)
theorem Fits.held {d : Int} {l : List Ro} (h : Fits d l) : Held (deeper d l) := fun x hx => by
  obtain ⟨y, hy, rfl⟩ := List.mem_map.1 hx
  exact h y hy
theorem Few.drop {l : List Ro} (h : Few l) (k : Nat) : Few (l.drop k) := fun x hx => h x (List.mem_of_mem_drop hx)
theorem Few.take {l : List Ro} (h : Few l) (k : Nat) : Few (l.take k) := fun x hx => h x (List.mem_of_mem_take hx)
theorem Held.drop {l : List Ro} (h : Held l) (k : Nat) : Held (l.drop k) := fun x hx => h x (List.mem_of_mem_drop hx)
theorem Held.take {l : List Ro} (h : Held l) (k : Nat) : Held (l.take k) := fun x hx => h x (List.mem_of_mem_take hx)
theorem Fits.drop {d : Int} {l : List Ro} (h : Fits d l) (k : Nat) : Fits d (l.drop k) := fun x hx => h x (List.mem_of_mem_drop hx)
theorem Fits.take {d : Int} {l : List Ro} (h : Fits d l) (k : Nat) : Fits d (l.take k) := fun x hx => h x (List.mem_of_mem_take hx)

end Go.Proofs.Ytgjlfcamgkeibaa.Ro

namespace Go.Proofs.Ytgjlfcamgkeibaa.Ro
set_option maxRecDepth 100000
set_option linter.unusedVariables false
set_option linter.unusedSimpArgs false
open Go.RowKit Ba
theorem Ra.take {w : World} {N : Nat} {A : Option Addr} {l : List At} (h : Ra w N A l) (k : Nat) : Ra w N A (l.take k) := fun h0 => by
  rw [List.length_take] at h0
  obtain ⟨b, off, e, hb, hc⟩ := h (by omega)
  refine ⟨b, off, e, hb, fun j hj => ?_⟩
  rw [List.length_take] at hj
  rw [List.getElem_take]
  exact hc j (by omega)
abbrev cut (x : Cw) (ys : List At) : Cw := ⟨⟨x.ro.depth, x.ro.kind, x.ro.name, x.ro.data, ys⟩, x.A, x.c⟩
theorem Att.cut {w : World} {N : Nat} {x : Cw} (h : Att w N x) : Att w N (cut x (x.ro.attrs.take 8)) :=
  ⟨Nat.le_trans (List.length_take_le' _ _) h.1, h.2.1, h.2.2.1, h.2.2.2.1.take 8, fun a ha => h.2.2.2.2 a (List.mem_of_mem_take ha)⟩
theorem min_any (x : Nat) (m : Nat) (M : Int) (hM : M = m) (y : Nat) (hy : y = min x m) (w : World) : ∀ ts t, (Builtin.min_ ts t #[.int .i64 x, .int .i64 M]).run Try.prog w = .ok (.int .i64 y) w := by
  intro ts t
  rw [run_min_int2, hy]
  congr 2
  split <;> omega

end Go.Proofs.Ytgjlfcamgkeibaa.Ro

namespace Go.Proofs.Ytgjlfcamgkeibaa.Ro
set_option linter.unusedVariables false
set_option linter.unusedSimpArgs false
open Ba
/-- The data of all texts, one after the other. -/
def txt : List Ro → List UInt8
  | [] => []
  | x :: r => (if x.kind = 1 then L x.data else []) ++ txt r
theorem txt_append (a b : List Ro) : txt (a ++ b) = txt a ++ txt b := by
  induction a with
  | nil => rfl
  | cons x r ih => rw [List.cons_append, txt, ih, txt, List.append_assoc]
theorem txt_one (x : Ro) : txt [x] = if x.kind = 1 then L x.data else [] := by rw [txt, txt, List.append_nil]
theorem txt_text {x : Ro} (h : x.kind = 1) : txt [x] = L x.data := by rw [txt_one, if_pos h]
theorem txt_other {x : Ro} (h : ¬ x.kind = 1) : txt [x] = [] := by rw [txt_one, if_neg h]
theorem txt_take (l : List Ro) (k : Nat) : (txt (l.take k)).length ≤ (txt l).length := by
  have h := txt_append (l.take k) (l.drop k)
  rw [List.take_append_drop] at h
  rw [h, List.length_append]
  omega
theorem txt_drop (l : List Ro) (k : Nat) : (txt (l.drop k)).length ≤ (txt l).length := by
  have h := txt_append (l.take k) (l.drop k)
  rw [List.take_append_drop] at h
  rw [h, List.length_append]
  omega
/-- How many texts at this depth come next. -/
def nexts (d : Int) (l : List Ro) : Nat := (l.takeWhile fun y => y.kind == 1 && y.depth == d).length
/-- The rows with each text joined to the one before it, and without empty ones. -/
def normal : List Ro → List Ro
  | [] => []
  | x :: r =>
    if x.kind = 1 then
      (if txt (x :: r.take (nexts x.depth r)) = [] then [] else [⟨x.depth, 1, .empty, B (txt (x :: r.take (nexts x.depth r))), []⟩]) ++ normal (r.drop (nexts x.depth r))
    else x :: normal r
termination_by l => l.length
decreasing_by all_goals (simp [List.length_drop]; try omega)

end Go.Proofs.Ytgjlfcamgkeibaa.Ro

namespace Go.Proofs.Ytgjlfcamgkeibaa.Ba
set_option maxRecDepth 100000
set_option linter.unusedSimpArgs false
set_option linter.unusedVariables false
open Go.RowKit
def bc (b : UInt8) : Value := .int .u8 b.toNat
/-- v is a slice of bytes of the call's own that holds l. -/
def OwnB (N : Nat) (w : World) (v : Value) (l : List UInt8) : Prop := w.ownsRow N 5 1 v l.length (l.map bc)
theorem info_u8 : (Try.prog.info? 5).map (fun i => (i.zero, i.size, i.bytes)) = some (some (.int .u8 0), 1, 1) := by kernel_rfl
theorem OwnB.alloc {N : Nat} {w : World} {v : Value} {l : List UInt8} (h : OwnB N w v l) (o : Obj) : OwnB N (w.alloc o) v l := World.ownsRow.alloc h o
theorem OwnB.below {N : Nat} {w0 w w' : World} {v : Value} {l : List UInt8} (h : OwnB N w v l) (hg : w.grownBy w' v.ownBlock) (hb : Below N w0 w) (hN : N ≤ w.heap.size) : Below N w0 w' :=
  hb.grown hg hN fun k hk => (h.lt k hk).1
theorem OwnB.keep {N M : Nat} {w w' : World} {v : Value} {l : List UInt8} (h : OwnB N w v l) (hb : Below M w w') (hM : w.heap.size ≤ M := by exact Nat.le_refl _) : OwnB N w' v l := by
  refine ⟨h.1, ?_⟩
  rcases h.2 with hn | ⟨g, cap, cur, hv, hg, hh, rest⟩
  · exact .inl hn
  · refine .inr ⟨g, cap, cur, hv, hg, ?_, rest⟩
    have hlt : g < w.heap.size := (Array.getElem?_eq_some_iff.1 hh).1
    rw [hb.block g (by omega)]
    exact hh
theorem OwnB.made (w : World) : OwnB w.heap.size (w.alloc (.cells #[] 5)) (.slice (some ⟨w.heap.size, 0, none⟩) 0 0) [] :=
  World.ownsRow_made w #[] 0 (Nat.le_refl _) (Nat.zero_le _) rfl
theorem OwnB.string {N : Nat} {w : World} {v : Value} {l : List UInt8} (h : OwnB N w v l) : (convert 93 9 v).run Try.prog w = .ok (.string (B l)) w := by
  rcases h.2 with ⟨hv, hl⟩ | ⟨g, cap, cur, hv, hb, hgg, rest⟩
  · have : l = [] := List.eq_nil_of_length_eq_zero hl
    subst this hv
    rw [run_convert_bytes_string w _ _ _ none 0 0 Try.underlying93 Try.underlying5 Try.underlying9]
    rfl
  · subst hv
    exact run_convert_bytes_back w _ _ _ ⟨g, 0, none⟩ cap l Try.underlying93 Try.underlying5 Try.underlying9 fun j hj => World.ownsRow.cells h rfl j _ (by simp [bc, hj])
theorem OwnB.appended {N : Nat} {w : World} {v : Value} {l m : List UInt8} {n : Nat} (h : w.ownsRow N 5 1 v n (l.map bc ++ m.map bc)) (hn : n = l.length + m.length) : OwnB N w v (l ++ m) := by
  unfold OwnB
  rw [List.map_append, List.length_append, ← hn]
  exact h
/-- append of one byte, in a block of its own. -/
theorem app_byte {ops : Array Oper} {rest : List Oper} {o : Oper} {a : Act} {Q : Exit → Act → World → Prop} (w : World) (hgd : o.guard = none) (s x : Operand)
    (ho : o.op = .call { callee := .builtin .append, args := #[s, x], argTypes := #[93, 93] })
    (N : Nat) (v : Value) (l : List UInt8) (y : UInt8) (hs : a.eval s = v) (hown : OwnB N w v l) (hx : a.eval x = .slice (some ⟨w.heap.size, 0, none⟩) 1 1)
    (hl : l.length + 1 ≤ 140737488355328) (hN : N ≤ w.heap.size)
    (h : ∀ v' w', OwnB N w' v' (l ++ [y]) → (∀ w0, Below N w0 w → Below N w0 w') → wpList Try.prog ops Q rest (a.put o.dst v') w') :
    wpList Try.prog ops Q (o :: rest) a (w.alloc (.cells #[.int .u8 y.toNat] 5)) := by
  obtain ⟨i0, hi, hz0, hz1, hz2⟩ := info_parts info_u8
  have hown' : OwnB N (w.alloc (.cells #[.int .u8 y.toNat] 5)) v l := hown.alloc _
  have hsz : (w.alloc (.cells #[.int .u8 y.toNat] 5)).heap.size = w.heap.size + 1 := by simp
  refine wpList_append_own _ hgd s x 93 ho N 5 i0 (.int .u8 0) 1 1 Try.underlying93 hi hz0 hz1 hz2 rfl (by decide) v l.length (l.map bc) hs hown' ⟨w.heap.size, 0, none⟩ 1 1 [.int .u8 y.toNat] hx rfl (cell_one_new _ _ _) (by intro u hu; simp at hu; subst hu; rfl) (by unfold maxLen; omega) (by omega) (by omega) ?_
  intro v' w' ho2 hg2 _
  exact h v' w' (OwnB.appended (m := [y]) ho2 rfl) fun w0 hb => hown'.below hg2 (hb.alloc hN _) (by omega)

theorem strCells_b (s : ByteArray) : Lib.strCells s = (L s).map bc := rfl
/-- append of a string's bytes onto bytes of the call's own. -/
theorem app_strb {ops : Array Oper} {rest : List Oper} {o : Oper} {a : Act} {Q : Exit → Act → World → Prop} (w : World) (hgd : o.guard = none) (s x : Operand)
    (ho : o.op = .call { callee := .builtin .append, args := #[s, x], argTypes := #[93, 9] })
    (N : Nat) (v : Value) (l : List UInt8) (t : ByteArray) (hs : a.eval s = v) (hown : OwnB N w v l) (hx : a.eval x = .string t)
    (hl : l.length + t.size ≤ 140737488355328) (hN : N ≤ w.heap.size)
    (h : ∀ v' w', OwnB N w' v' (l ++ L t) → (∀ w0, Below N w0 w → Below N w0 w') → wpList Try.prog ops Q rest (a.put o.dst v') w') :
    wpList Try.prog ops Q (o :: rest) a w := by
  obtain ⟨i0, hi, hz0, hz1, hz2⟩ := info_parts info_u8
  refine Lib.wpList_append_own_string _ hgd s x 93 9 ho N 5 i0 Try.underlying93 Try.underlying9 hi hz0 hz1 hz2 v l.length (l.map bc) hs hown t hx (by unfold maxLen; omega) hl hN ?_
  intro v2 w2 hown2 hgrow2 _
  refine h v2 w2 ?_ fun w0 hb => hown.below hgrow2 hb hN
  rw [strCells_b] at hown2
  exact OwnB.appended hown2 (by rw [size_L])
theorem OwnB.nil (N : Nat) (w : World) : OwnB N w (.slice none 0 0) [] := World.ownsRow_nil w N _ 1

end Go.Proofs.Ytgjlfcamgkeibaa.Ba

namespace Go.Proofs.Ytgjlfcamgkeibaa.Ro
set_option maxRecDepth 100000
set_option linter.unusedVariables false
set_option linter.unusedSimpArgs false
open Go.RowKit Ba
theorem txt_at {l : List Cw} {k : Nat} {x : Cw} (h : l.drop k = x :: l.drop (k + 1)) : txt (ros (l.take (k + 1))) = txt (ros (l.take k)) ++ txt [x.ro] := by
  rw [take_at h, ros_append, txt_append]
  rfl

set_option maxRecDepth 100000 in
theorem joined_any (A : Option Addr) (c : Nat) (l : List Cw) (w : World) (hr : Rr w w.heap.size A l) (hc : l.length ≤ c) (hm : l.length ≤ 1000000) (ht : (txt (ros l)).length ≤ 1000000000) :
    Calls Try.prog 67 #[.slice A l.length c] w fun e w' => e = .returned (.string (B (txt (ros l)))) ∧ Below w.heap.size w w' := by
  go_enter Try.func67, Try.ntmps67
  go_wp2
  go_loopw [3, 8] (fun v i wr => ∃ k : Nat, i = .int .i64 k ∧ k ≤ l.length ∧ OwnB w.heap.size wr v (txt (ros (l.take k))) ∧ Below w.heap.size w wr) (fun _ i _ => l.length - (intOf i).toNat)
  case atStart => exact ⟨0, rfl, by omega, OwnB.nil _ _, Below.refl _ _⟩
  case round =>
    obtain ⟨k, rfl, hk, hown, hbel⟩ := hrel
    have hsz := hbel.size
    by_cases hp : k < l.length
    · obtain ⟨b, off, x, rfl, hb, hdx, hx, _, _⟩ := (hr.below hbel).at_ k hp
      have htx := txt_at hdx
      have hb1 := hbel.alloc hsz (rowO x)
      cases h1 : x.ro.kind == 1 with
      | true =>
        rw [txt_text (beq_iff_eq.1 h1)] at htx
        have hl2 := congrArg List.length htx
        rw [List.length_append, size_L] at hl2
        have hl3 := txt_take (ros l) (k + 1)
        rw [ros_take] at hl3
        have hle : (txt (ros (l.take k))).length + x.ro.data.size ≤ 140737488355328 := by omega
        have HT := Lib.hid htx; have HO := Lib.hid hown; have HB := Lib.hid hb1; have HL := Lib.hid hle
        clear htx hdx hown hb1 hl2 hl3 hle
        go_wp2_with (first
          | (refine wpList_load_mid rfl 36 (.tmp 10) rfl b (off + k * 5) rfl _ _ hx Try.underlying36 rfl size_row ?_)
          | (at_builtin; refine app_strb _ rfl (.tmp 15) (.tmp 17) rfl w.heap.size _ _ x.ro.data rfl (HO.out.alloc _) rfl HL.out (by simp; omega) ?_; intro v3 w3 ho3 hk3))
        go_roundw
        case rel => exact ⟨k + 1, by go_num, by omega, by rw [HT.out]; exact ho3, hk3 w HB.out⟩
        case measure => simp [intOf]; omega
      | false =>
        rw [txt_other (beq_eq_false_iff_ne.1 h1), List.append_nil] at htx
        have HT := Lib.hid htx; have HO := Lib.hid hown; have HB := Lib.hid hb1
        clear htx hdx hown hb1
        go_wp2_with (refine wpList_load_mid rfl 36 (.tmp 10) rfl b (off + k * 5) rfl _ _ hx Try.underlying36 rfl size_row ?_)
        go_roundw
        case rel => exact ⟨k + 1, by go_num, by omega, by rw [HT.out]; exact HO.out.alloc _, HB.out⟩
        case measure => simp [intOf]; omega
    · rw [List.take_of_length_le (by omega)] at hown
      have hstr := hown.string
      go_wp2
      go_ret
      exact ⟨rfl, hbel⟩

theorem txt_part (l : List Ro) (f k : Nat) : (txt ((l.take k).drop f)).length ≤ (txt l).length := Nat.le_trans (txt_drop _ _) (txt_take _ _)
end Go.Proofs.Ytgjlfcamgkeibaa.Ro

namespace Go.Proofs.Ytgjlfcamgkeibaa.Ro
set_option maxRecDepth 100000
set_option linter.unusedVariables false
set_option linter.unusedSimpArgs false
open Go.RowKit Ba
/-- The place behind so many more texts. -/
def j1 (n k : Nat) : Nat := k + 1 + n

set_option maxRecDepth 100000 in
set_option maxHeartbeats 1000000 in
theorem textsEnd_any (A : Option Addr) (c : Nat) (l : List Cw) (j : Nat) (x : Cw) (w : World) (hr : Rr w w.heap.size A l) (hc : l.length ≤ c) (hm : l.length ≤ 1000000) (hx : l.drop j = x :: l.drop (j + 1)) (hj : j < l.length) :
    Calls Try.prog 66 #[.slice A l.length c, .int .i64 j] w fun e w' => e = .returned (.int .i64 (j1 (nexts x.ro.depth (ros (l.drop (j + 1)))) j : Nat)) ∧ ∃ n, w' = w.drewN n := by
  obtain ⟨E, hE⟩ : ∃ E, j1 (nexts x.ro.depth (ros (l.drop (j + 1)))) j = E := ⟨_, rfl⟩
  rw [hE]
  obtain ⟨b, off, y, rfl, hb, hdy, hy, _, _⟩ := hr.at_ j hj
  obtain rfl : y = x := by
    rw [hx] at hdy
    injection hdy with e
    exact e.symm
  have hg0 := (range5 hy).1
  have HE := Lib.hid hE
  clear hE hy hdy hx
  go_enter Try.func66, Try.ntmps66
  go_wp2
  go_loopw [5] (fun v wr => ∃ k : Nat, v = .int .i64 k ∧ k ≤ l.length ∧ k + nexts y.ro.depth (ros (l.drop k)) = E ∧ ∃ n, wr = w.drewN n) (fun v _ => l.length - (intOf v).toNat)
  case atStart => exact ⟨j + 1, by go_num, by omega, HE.out, 0, rfl⟩
  case round =>
    clear HE
    obtain ⟨k, rfl, hk, hv, n, rfl⟩ := hrel
    by_cases hp : k < l.length
    · obtain ⟨b', off', z, e, _, hdz, hz, _, _⟩ := hr.at_ k hp
      injection e with e
      injection e with e1 e2
      subst e1 e2
      have hz0 := (range5 hz).1
      have hz1 := (range5 hz).2.1
      cases h1 : z.ro.kind == 1 with
      | true =>
        cases h2 : z.ro.depth == y.ro.depth with
        | true =>
          have h3 : nexts y.ro.depth (ros (l.drop k)) = nexts y.ro.depth (ros (l.drop (k + 1))) + 1 := take_step hdz (by rw [h1, h2]; rfl)
          rw [h3] at hv
          have HV := Lib.hid hv
          clear hv hz hdz h3
          go_wp2
          go_quiet (fail)
          go_wp2
          go_roundw
          case rel => exact ⟨k + 1, by go_num, by omega, by have := HV.out; omega, _, rfl⟩
          case measure => simp [intOf]; omega
        | false =>
          have h3 : nexts y.ro.depth (ros (l.drop k)) = 0 := take_stop hdz (by rw [h1, h2]; rfl)
          rw [h3] at hv
          have HV := Lib.hid hv
          clear hv hz hdz h3
          go_wp2
          go_quiet (fail)
          go_wp2
          go_ret
          exact ⟨ret_int (by rw [← HV.out]; rfl), _, World.drewN_drewN _ _ _⟩
      | false =>
        have h3 : nexts y.ro.depth (ros (l.drop k)) = 0 := take_stop hdz (by rw [h1]; rfl)
        rw [h3] at hv
        have HV := Lib.hid hv
        clear hv hz hdz h3
        go_wp2
        go_quiet (fail)
        go_wp2
        go_ret
        exact ⟨ret_int (by rw [← HV.out]; rfl), _, World.drewN_drewN _ _ _⟩
    · have hp' : decide (k < l.length) = false := decide_eq_false hp
      rw [List.drop_eq_nil_of_le (by omega)] at hv
      have HV := Lib.hid hv
      clear hv
      go_wp2
      go_quiet (fail)
      go_wp2
      go_ret
      exact ⟨ret_int (by rw [← HV.out]; rfl), _, World.drewN_drewN _ _ _⟩

theorem normal_text {x : Ro} {r : List Ro} (h : x.kind = 1) : normal (x :: r) = (if txt (x :: r.take (nexts x.depth r)) = [] then [] else [⟨x.depth, 1, .empty, B (txt (x :: r.take (nexts x.depth r))), []⟩]) ++ normal (r.drop (nexts x.depth r)) := by
  rw [normal, if_pos h]
theorem normal_other {x : Ro} {r : List Ro} (h : ¬ x.kind = 1) : normal (x :: r) = x :: normal r := by
  rw [normal, if_neg h]
theorem normal_nil : normal [] = [] := by rw [normal]
theorem len_nexts (d : Int) (l : List Ro) : nexts d l ≤ l.length := (List.takeWhile_sublist _).length_le

theorem part_cons {l : List Cw} {k n : Nat} {x : Cw} (h : l.drop k = x :: l.drop (k + 1)) : (l.take (k + 1 + n)).drop k = x :: (l.drop (k + 1)).take n := by
  rw [List.drop_take, h, show k + 1 + n - k = n + 1 from by omega, List.take_succ_cons]
theorem Rr.mids {w : World} {N b off : Nat} {l : List Cw} (h : Rr w N (some ⟨b, off, none⟩) l) (i j cap : Nat) (hij : i ≤ j) (hj : j ≤ l.length) (hc : l.length ≤ cap) (hne : i < cap) :
    Rr w N (some ⟨b, off + i * 5, none⟩) ((l.take j).drop i) := by
  have := h.mid i j cap hij hj hc hne
  rw [Option.map_some, WideShapes.add_plain] at this
  exact this
theorem fr_none (N : Nat) (w : World) (r : Ro) (h : r.attrs = []) : Fr N w ⟨r, none, 0⟩ := by
  refine ⟨?_, by rw [h]; exact fun _ hx => by simp at hx⟩
  show w.ownsRow N _ 2 (.slice none r.attrs.length 0) r.attrs.length (r.attrs.flatMap acells)
  rw [h]
  exact World.ownsRow_nil w N _ 2
abbrev textRow (d : Int) (D : ByteArray) : Cw := ⟨⟨d, 1, .empty, D, []⟩, none, 0⟩

set_option maxRecDepth 100000 in
set_option maxHeartbeats 1000000 in
theorem Normal_any (A : Option Addr) (c : Nat) (l : List Cw) (w : World) (hr : Rr w w.heap.size A l) (hc : l.length ≤ c) (hm : l.length ≤ 1000000) (ht : (txt (ros l)).length ≤ 1000000000) (hf : Few (ros l)) (hh : Held (ros l)) :
    Calls Try.prog 28 #[.slice A l.length c] w fun e w' => ∃ v l', e = .returned v ∧ Ow w.heap.size w' v l' ∧ (∀ x ∈ l', Fr w.heap.size w' x) ∧ ros l' = normal (ros l) ∧ Below w.heap.size w w' := by
  obtain ⟨V, hV⟩ : ∃ V, normal (ros l) = V := ⟨_, rfl⟩
  rw [hV]
  have HV := Lib.hid hV
  clear hV
  go_enter Try.func28, Try.ntmps28
  go_wp2
  go_loopw [3, 4] (fun v i wr => ∃ (k : Nat) (acc : List Cw), i = .int .i64 k ∧ k ≤ l.length ∧ acc.length ≤ k ∧ Ow w.heap.size wr v acc ∧ (∀ x ∈ acc, Fr w.heap.size wr x) ∧ ros acc ++ normal (ros (l.drop k)) = V ∧ Below w.heap.size w wr) (fun _ i _ => l.length - (intOf i).toNat)
  case atStart => exact ⟨0, [], rfl, by omega, by simp, Ow.nil _ _, fun _ h => by simp at h, HV.out, Below.refl _ _⟩
  case round =>
    clear HV
    obtain ⟨k, acc, rfl, hk, hal, hown, hfr, hros, hbel⟩ := hrel
    have hsz := hbel.size
    have hrw := hr.below hbel
    by_cases hp : k < l.length
    · obtain ⟨b, off, x, hA, hb, hdx, hx, hxa, hxm⟩ := hrw.at_ k hp
      have g0 := (range5 hx).1
      have g1 := (range5 hx).2.1
      rw [hdx, ros_cons] at hros
      subst hA
      cases h1 : x.ro.kind == 1 with
      | false =>
        have h1' : (x.ro.kind != 1) = true := by rw [bne, h1]; rfl
        rw [normal_other (beq_eq_false_iff_ne.1 h1)] at hros
        have hpart := hrw.mids k (k + 1) c (by omega) (by omega) hc (by omega)
        have e : (l.take (k + 1)).drop k = [x] := by rw [show k + 1 = k + 1 + 0 from rfl, part_cons hdx]; rfl
        rw [e] at hpart
        have HP := Lib.hid hpart; have HO := Lib.hid hown; have HF := Lib.hid hfr; have HR := Lib.hid hros
        have hfx : Few (ros [x]) := fun z hz => by
          obtain rfl := List.mem_singleton.1 hz
          exact hf.at_ hxm
        have hhx : Held (ros [x]) := fun z hz => by
          obtain rfl := List.mem_singleton.1 hz
          exact hh _ (List.mem_map.2 ⟨x, hxm, rfl⟩)
        clear hpart hown hfr hros hrw e hdx hx hxa
        have HFX := Lib.hid hfx; have HHX := Lib.hid hhx
        clear hfx hhx
        have hal2 : acc.length ≤ 1000000 := by omega
        go_wp2_with fail
        refine (appendMoved_any w.heap.size _ acc _ (c - k) [x] 0 wr hsz HO.out HF.out hal2 HP.out (by simp; omega) (by simp) HFX.out HHX.out.fits).mono ?_
        rintro e w2 ⟨v2, l2, rfl, ho2, hf2, hr2, hb2⟩
        rw [deeper_zero] at hr2
        have HO2 := Lib.hid ho2; have HF2 := Lib.hid hf2; have HR2 := Lib.hid hr2; have HB2 := Lib.hid hb2
        clear ho2 hf2 hr2 hb2
        go_wp2
        go_roundw
        case rel =>
          have hl2 : l2.length = acc.length + 1 := by rw [← len_ros, HR2.out, List.length_append, len_ros]; rfl
          exact ⟨k + 1, l2, by go_num, by omega, by omega, HO2.out, HF2.out, by rw [HR2.out, List.append_assoc]; exact HR.out, hbel.trans HB2.out⟩
        case measure => simp [intOf]; omega
      | true =>
        have h1' : (x.ro.kind != 1) = false := by rw [bne, h1]; rfl
        rw [normal_text (beq_iff_eq.1 h1)] at hros
        obtain ⟨n, hn⟩ : ∃ n, nexts x.ro.depth (ros (l.drop (k + 1))) = n := ⟨_, rfl⟩
        have hnl := len_nexts x.ro.depth (ros (l.drop (k + 1)))
        rw [hn, len_ros, List.length_drop] at hnl
        rw [hn] at hros
        obtain ⟨E, hE⟩ : ∃ E, k + 1 + n = E := ⟨_, rfl⟩
        have hEl : E ≤ l.length := by omega
        have hEk : k < E := by omega
        have hpart := hrw.mids k E c (by omega) hEl hc (by omega)
        have hlen := len_part l k E hEl
        have hpr : ros ((l.take E).drop k) = x.ro :: (ros (l.drop (k + 1))).take n := by rw [← hE, part_cons hdx, ros_cons, ros_take]
        have hte : (txt (ros ((l.take E).drop k))).length ≤ 1000000000 := by rw [ros_part]; exact Nat.le_trans (txt_part _ _ _) ht
        rw [← hpr, ros_drop, List.drop_drop, hE] at hros
        have hee : j1 (nexts x.ro.depth (ros (l.drop (k + 1)))) k = E := by rw [hn, ← hE]; rfl
        obtain ⟨m, hm1⟩ : ∃ m, (l.take E).drop k = m := ⟨_, rfl⟩
        rw [hm1] at hpart hlen hte hros
        obtain ⟨D, hD⟩ : ∃ D, B (txt (ros m)) = D := ⟨_, rfl⟩
        rw [hD] at hros
        have HP := Lib.hid hpart; have HO := Lib.hid hown; have HF := Lib.hid hfr; have HL := Lib.hid hlen; have HD := Lib.hid hD; have HTE := Lib.hid hte; have HEE := Lib.hid hee; have HRW := Lib.hid hrw; have HDX := Lib.hid hdx
        have hal2 : acc.length ≤ 1000000 := by omega
        have hmc : m.length ≤ c - k := by omega
        have hmm : m.length ≤ 1000000 := by omega
        cases hte0 : txt (ros m) with
        | nil =>
          rw [if_pos hte0, List.nil_append] at hros
          have hDl : D.toList = [] := by rw [← hD, toList_B, hte0]
          have hDe : D.toList.isEmpty = true := by rw [hDl]; rfl
          have HR := Lib.hid hros
          clear hpart hown hfr hlen hte hee hrw hdx hm1 hE hn hx hxa hros hte0 hD hpr
          go_wp2_with fail
          refine (textsEnd_any _ c l k x wr (HRW.out.more hsz) hc hm HDX.out hp).mono ?_
          rintro e w1 ⟨rfl, nd, rfl⟩
          rw [HEE.out]
          go_wp2_with fail
          rw [← HL.out]
          refine (joined_any _ (c - k) m (wr.drewN nd) (by exact HP.out.more hsz) hmc hmm HTE.out).mono ?_
          rintro e w2 ⟨rfl, hb2⟩
          rw [HD.out]
          have HB2 : Hid (Below wr.heap.size wr w2) := Lib.hid ((below_dN (Below.refl _ wr) nd).trans hb2)
          clear hb2
          go_wp2
          go_roundw
          case rel => exact ⟨E, acc, rfl, by omega, by omega, HO.out.below HB2.out, fun z hz => (HF.out z hz).below HB2.out, HR.out, hbel.trans (HB2.out.mono hsz)⟩
          case measure => simp [intOf]; omega
        | cons u us =>
          rw [if_neg (by rw [hte0]; exact fun h => by cases h)] at hros
          have hDl : ¬ D.toList = [] := by rw [← hD, toList_B, hte0]; exact fun h => by cases h
          have hDe : D.toList.isEmpty = false := by rw [← hD, toList_B, hte0]; rfl
          have HR := Lib.hid hros
          clear hpart hown hfr hlen hte hee hrw hdx hm1 hE hn hx hxa hros hte0 hD hpr
          go_wp2_with fail
          refine (textsEnd_any _ c l k x wr (HRW.out.more hsz) hc hm HDX.out hp).mono ?_
          rintro e w1 ⟨rfl, nd, rfl⟩
          rw [HEE.out]
          go_wp2_with fail
          rw [← HL.out]
          refine (joined_any _ (c - k) m (wr.drewN nd) (by exact HP.out.more hsz) hmc hmm HTE.out).mono ?_
          rintro e w2 ⟨rfl, hb2⟩
          rw [HD.out]
          have HB2 : Hid (Below wr.heap.size wr w2) := Lib.hid ((below_dN (Below.refl _ wr) nd).trans hb2)
          clear hb2
          have hgd : w2.cell? ⟨b, off + k * 5, none⟩ = some (.int .i64 x.ro.depth) := (HB2.out.cell (p := ⟨b, off + k * 5, none⟩) (Nat.lt_of_lt_of_le hb hsz)).trans g0
          have hsz2 := Nat.le_trans hsz HB2.out.size
          have HFN : Hid (Fr w.heap.size w2 (textRow x.ro.depth D)) := Lib.hid (fr_none _ _ _ rfl)
          have hal3 : acc.length ≤ 2000000 := by omega
          go_wp2_with (at_builtin; refine app_row w2 rfl (.tmp 36) (.tmp 44) rfl w.heap.size _ acc (textRow x.ro.depth D) rfl (HO.out.below HB2.out) HFN.out.att HFN.out.ap w2.heap.size rfl rfl hal3 hsz2 ?_; intro v3 w3 ho3 hk3 hf3)
          go_roundw
          case rel =>
            refine ⟨E, acc ++ [textRow x.ro.depth D], rfl, by omega, by simp; omega, ho3, fun z hz => ?_, by rw [ros_append, List.append_assoc]; exact HR.out, hk3 w (hbel.trans (HB2.out.mono hsz))⟩
            rcases List.mem_append.1 hz with h | h
            · exact hf3 z ((HF.out z h).below HB2.out)
            · obtain rfl := List.mem_singleton.1 h
              exact fr_none _ _ _ rfl
          case measure => simp [intOf]; omega
    · rw [List.drop_eq_nil_of_le (by omega)] at hros
      have HR := Lib.hid hros
      clear hros hrw
      go_wp2
      go_ret
      exact ⟨_, acc, rfl, hown, hfr, by rw [← HR.out, show ros [] = [] from rfl, normal_nil, List.append_nil], hbel⟩

end Go.Proofs.Ytgjlfcamgkeibaa.Ro

namespace Go.Proofs.Ytgjlfcamgkeibaa.Ro
set_option maxRecDepth 100000
set_option linter.unusedVariables false
set_option linter.unusedSimpArgs false
open Go.RowKit Ba
def sets (xs : List Value) : Nat → List Value → List Value
  | _, [] => xs
  | o, v :: r => sets (xs.set o v) (o + 1) r
theorem sets_end : ∀ (vs us F : List Value), us.length = vs.length → sets (F ++ us) F.length vs = F ++ vs
  | [], us, F, h => by
    have : us = [] := List.eq_nil_of_length_eq_zero h
    rw [this]
    rfl
  | v :: r, [], F, h => by cases h
  | v :: r, u :: us, F, h => by
    rw [sets, List.set_append_right F.length v (Nat.le_refl _), Nat.sub_self, List.set_cons_zero]
    have := sets_end r us (F ++ [v]) (by simpa using h)
    rw [List.length_append, List.append_assoc, List.append_assoc] at this
    exact this
theorem stored_many {N g n cap : Nat} {e : TypeId} {size : Nat} : ∀ (vs : List Value) (o : Nat) (w : World) (xs : List Value), w.ownsRow N e size (.slice (some ⟨g, 0, none⟩) n cap) n xs →
    (w.setCells g o vs).ownsRow N e size (.slice (some ⟨g, 0, none⟩) n cap) n (sets xs o vs) ∧ w.grownBy (w.setCells g o vs) (some g)
  | [], o, w, xs, h => ⟨h, World.grownBy.refl w _⟩
  | v :: r, o, w, xs, h => by
    obtain ⟨h1, h2⟩ := World.ownsRow.stored h o v
    obtain ⟨h3, h4⟩ := stored_many r (o + 1) _ _ h1
    exact ⟨h3, h2.trans h4⟩
/-- The last row of the call's own, stored anew. -/
theorem Ow.last {N g cap : Nat} {w : World} {init : List Cw} {y y' : Cw} (h : Ow N w (.slice (some ⟨g, 0, none⟩) (init.length + 1) cap) (init ++ [y])) (hy : Att w w.heap.size y') (ha : Ap w N y') :
    Ow N (w.setCells g (init.length * 5) (cells y')) (.slice (some ⟨g, 0, none⟩) (init.length + 1) cap) (init ++ [y']) ∧ w.grownBy (w.setCells g (init.length * 5) (cells y')) (some g) := by
  obtain ⟨h1, h2⟩ := h
  rw [List.length_append, List.flatMap_append] at h1
  have h1 : w.ownsRow N 36 5 (.slice (some ⟨g, 0, none⟩) (init.length + 1) cap) (init.length + 1) (init.flatMap cells ++ cells y) := by simpa using h1
  obtain ⟨h3, h4⟩ := stored_many (cells y') (init.length * 5) w _ h1
  rw [← flat_len cells 5 len_cells init, sets_end (cells y') (cells y) _ rfl, flat_len cells 5 len_cells init] at h3
  refine ⟨⟨?_, fun z hz => ?_⟩, h4⟩
  · rw [List.length_append, List.flatMap_append]
    simpa using h3
  · rcases List.mem_append.1 hz with hz | hz
    · have := h2 z (List.mem_append_left _ hz)
      exact ⟨this.1.grown h1 h4 this.2, this.2.grown h1 h4⟩
    · obtain rfl := List.mem_singleton.1 hz
      exact ⟨hy.grown h1 h4 ha, ha.grown h1 h4⟩
theorem Ow.there {N g cap : Nat} {w : World} {init : List Cw} {y : Cw} (h : Ow N w (.slice (some ⟨g, 0, none⟩) (init.length + 1) cap) (init ++ [y])) : w.there g (init.length * 5) 5 := by
  obtain ⟨h1, _⟩ := h
  rw [List.length_append, List.flatMap_append] at h1
  have h1 : w.ownsRow N 36 5 (.slice (some ⟨g, 0, none⟩) (init.length + 1) cap) (init.length + 1) (init.flatMap cells ++ cells y) := by simpa using h1
  intro j hj
  refine ⟨?_, h1.frozenAt _⟩
  rw [h1.cellAt _ (by omega), List.getElem?_eq_getElem (by rw [List.length_append, flat_len cells 5 len_cells, len_cells]; omega)]
  rfl

/-- One more row, as the reference joins it to what there is. -/
def stepN (acc : List Ro) (x : Ro) : List Ro :=
  if x.kind = 1 ∧ x.data.toList = [] then acc
  else match acc.getLast? with
    | some y => if x.kind = 1 ∧ y.kind = 1 ∧ y.depth = x.depth then acc.dropLast ++ [{ y with data := y.data ++ x.data }] else acc ++ [x]
    | none => acc ++ [x]
theorem stepN_empty {acc : List Ro} {x : Ro} (h1 : x.kind = 1) (h2 : x.data.toList = []) : stepN acc x = acc := if_pos ⟨h1, h2⟩
theorem stepN_first {x : Ro} (h : ¬ (x.kind = 1 ∧ x.data.toList = [])) : stepN [] x = [x] := if_neg h
theorem stepN_join {acc : List Ro} {x y : Ro} (h : ¬ (x.kind = 1 ∧ x.data.toList = [])) (hj : x.kind = 1 ∧ y.kind = 1 ∧ y.depth = x.depth) : stepN (acc ++ [y]) x = acc ++ [{ y with data := y.data ++ x.data }] := by
  rw [stepN, if_neg h, List.getLast?_concat, List.dropLast_concat]
  exact if_pos hj
theorem stepN_more {acc : List Ro} {x y : Ro} (h : ¬ (x.kind = 1 ∧ x.data.toList = [])) (hj : ¬ (x.kind = 1 ∧ y.kind = 1 ∧ y.depth = x.depth)) : stepN (acc ++ [y]) x = acc ++ [y] ++ [x] := by
  rw [stepN, if_neg h, List.getLast?_concat]
  exact if_neg hj
def refNormal (l : List Ro) : List Ro := l.foldl stepN []
theorem fold_at {l : List Cw} {k : Nat} {x : Cw} (h : l.drop k = x :: l.drop (k + 1)) : refNormal (ros (l.take (k + 1))) = stepN (refNormal (ros (l.take k))) x.ro := by
  rw [take_at h, ros_append, refNormal, List.foldl_append]
  rfl
theorem txt_stepN (acc : List Ro) (x : Ro) : txt (stepN acc x) = txt acc ++ txt [x] := by
  by_cases h : x.kind = 1 ∧ x.data.toList = []
  · rw [stepN_empty h.1 h.2, txt_text h.1, ← toList_L, h.2, List.append_nil]
  · rcases List.eq_nil_or_concat acc with rfl | ⟨init, y, rfl⟩
    · rw [stepN_first h]
      rfl
    · rw [List.concat_eq_append]
      by_cases hj : x.kind = 1 ∧ y.kind = 1 ∧ y.depth = x.depth
      · rw [stepN_join h hj, txt_append, txt_append, List.append_assoc, txt_text hj.1, txt_text hj.2.1, txt_text (x := { y with data := y.data ++ x.data }) hj.2.1, L_append]
      · rw [stepN_more h hj, txt_append]
theorem txt_refNormal (l : List Ro) : txt (refNormal l) = txt l := by
  unfold refNormal
  have : ∀ (l acc : List Ro), txt (l.foldl stepN acc) = txt acc ++ txt l := by
    intro l
    induction l with
    | nil => intro acc; exact (List.append_nil _).symm
    | cons x r ih =>
      intro acc
      rw [List.foldl_cons, ih, txt_stepN, List.append_assoc, ← txt_append]
      rfl
  rw [this]
  rfl

theorem ros_single : ∀ {l : List Cw} {r : Ro}, ros l = [r] → ∃ z, l = [z] ∧ z.ro = r
  | [], _, h => by cases h
  | [z], _, h => ⟨z, rfl, by injection h⟩
  | _ :: _ :: _, _, h => by
    rw [ros_cons, ros_cons] at h
    injection h with _ h
    cases h
theorem Ow.pos {N : Nat} {w : World} {v : Value} {init : List Cw} {y : Cw} (h : Ow N w v (init ++ [y])) :
    ∃ g cap, v = .slice (some ⟨g, 0, none⟩) (init.length + 1) cap ∧ init.length + 1 ≤ cap ∧ cap ≤ maxLen ∧ N ≤ g ∧ g < w.heap.size ∧ w.rangeAt g (init.length * 5) (cells y) := by
  have hl : (init ++ [y]).length = init.length + 1 := by simp
  obtain ⟨A, c, hv, h1, h2, _, h4⟩ := h.form
  rcases h.1.2 with ⟨_, hn⟩ | ⟨g, cap, cur, hv', hg, hh, hn, hm, _⟩
  · omega
  · rw [hl] at hv' hn
    refine ⟨g, cap, hv', hn, hm, hg, (Array.getElem?_eq_some_iff.1 hh).1, ?_⟩
    obtain ⟨b, off, e, _, hc⟩ := h4.1 (by omega)
    rw [hv', hl] at hv
    injection hv with e1
    rw [← e1] at e
    injection e with e
    injection e with e2 e3
    subst e2 e3
    have := hc init.length (by omega)
    rw [Nat.zero_add] at this
    simpa using this

/-- A row with another one's data behind its own. -/
abbrev joinRow (y x : Cw) : Cw := ⟨⟨y.ro.depth, y.ro.kind, y.ro.name, y.ro.data ++ x.ro.data, y.ro.attrs⟩, y.A, y.c⟩
theorem one5 (a b : Int) (c d : ByteArray) (e : Option Addr) (f g : Nat) : (#[.int .i64 a, .int .i64 b, .string c, .string d, .slice e f g] : Array Value).all (·.oneCell') = true := by simp [Value.oneCell']
theorem box_new (w : World) (x : Cw) : (w.alloc (rowO x)).cell? ⟨w.heap.size, 0, none⟩ = some (.int .i64 x.ro.depth) ∧ (w.alloc (rowO x)).cell? ⟨w.heap.size, 1, none⟩ = some (.int .i64 x.ro.kind) ∧ (w.alloc (rowO x)).cell? ⟨w.heap.size, 2, none⟩ = some (.string x.ro.name) ∧ (w.alloc (rowO x)).cell? ⟨w.heap.size, 3, none⟩ = some (.string x.ro.data) ∧ (w.alloc (rowO x)).cell? ⟨w.heap.size, 4, none⟩ = some (.slice x.A x.ro.attrs.length x.c) ∧ ∀ j, (w.alloc (rowO x)).frozen? ⟨w.heap.size, j, none⟩ = false := by
  refine ⟨box_at w x 0, box_at w x 1, box_at w x 2, box_at w x 3, box_at w x 4, fun j => ?_⟩
  unfold World.frozen?
  rw [heap_alloc_new]
  simp

set_option maxRecDepth 100000 in
set_option maxHeartbeats 2000000 in
theorem refNormal_any (A : Option Addr) (c : Nat) (l : List Cw) (w : World) (hr : Rr w w.heap.size A l) (hc : l.length ≤ c) (hm : l.length ≤ 1000000) (ht : (txt (ros l)).length ≤ 1000000000) (hf : Few (ros l)) (hh : Held (ros l)) :
    Calls Try.prog 25 #[.slice A l.length c] w fun e w' => ∃ v l', e = .returned v ∧ Ow w.heap.size w' v l' ∧ ros l' = refNormal (ros l) ∧ Below w.heap.size w w' := by
  go_enter Try.func25, Try.ntmps25
  go_wp2
  go_loopw [3, 4] (fun v i wr => ∃ (k : Nat) (acc : List Cw), i = .int .i64 k ∧ k ≤ l.length ∧ acc.length ≤ k ∧ Ow w.heap.size wr v acc ∧ ros acc = refNormal (ros (l.take k)) ∧ Below w.heap.size w wr) (fun _ i _ => l.length - (intOf i).toNat)
  case atStart => exact ⟨0, [], rfl, by omega, by simp, Ow.made w, rfl, below_new w _⟩
  case round =>
    obtain ⟨k, acc, rfl, hk, hal, hown, hros, hbel⟩ := hrel
    have hsz := hbel.size
    have hrw := hr.below hbel
    by_cases hp : k < l.length
    · obtain ⟨b, off, x, hA, hb, hdx, hx, hxa, hxm⟩ := hrw.at_ k hp
      have hstep := fold_at hdx
      rw [← hros] at hstep
      have htx := txt_refNormal (ros (l.take (k + 1)))
      rw [hstep] at htx
      have htl := txt_take (ros l) (k + 1)
      rw [ros_take, ← htx, txt_stepN, List.length_append] at htl
      subst hA
      have hpart := hrw.mids k (k + 1) c (by omega) (by omega) hc (by omega)
      have e : (l.take (k + 1)).drop k = [x] := by rw [show k + 1 = k + 1 + 0 from rfl, part_cons hdx]; rfl
      rw [e] at hpart
      have hfx : Few (ros [x]) := fun z hz => by
        obtain rfl := List.mem_singleton.1 hz
        exact hf.at_ hxm
      have hhx : Held (ros [x]) := fun z hz => by
        obtain rfl := List.mem_singleton.1 hz
        exact hh _ (List.mem_map.2 ⟨x, hxm, rfl⟩)
      have HP := Lib.hid (hpart.more hsz); have HO := Lib.hid hown; have HST := Lib.hid hstep; have HTL := Lib.hid htl; have HX := Lib.hid (range5 hx)
      have HFX := Lib.hid hfx; have HHX := Lib.hid hhx
      clear hpart hown hros hrw e hdx hx hxa hstep htx htl hfx hhx
      go_wp2_with fail
      refine (Moved_any _ (c - k) [x] 0 wr HP.out (by simp; omega) (by simp) HFX.out HHX.out.fits).mono ?_
      rintro e w1 ⟨v5, l5, rfl, ho5, hf5, hr5, hb5⟩
      rw [deeper_zero] at hr5
      obtain ⟨x5, hl5, hx5⟩ := ros_single hr5
      subst hl5
      obtain ⟨A5, c5, rfl, hc5, _, hn5, hrr5⟩ := ho5.form
      have hap5 : ∀ y ∈ [x5], Ap w1 w.heap.size y := fun y hy => ((hf5 y hy).mono hsz).ap
      have HO1 : Hid (Ow w.heap.size w1 _ acc) := Lib.hid (HO.out.below hb5)
      have g0 := (hb5.cell (p := ⟨b, off + k * 5, none⟩) (Nat.lt_of_lt_of_le hb hsz)).trans HX.out.1
      have g1 := (hb5.cell (p := ⟨b, off + k * 5 + 1, none⟩) (Nat.lt_of_lt_of_le hb hsz)).trans HX.out.2.1
      have g3 := (hb5.cell (p := ⟨b, off + k * 5 + 3, none⟩) (Nat.lt_of_lt_of_le hb hsz)).trans HX.out.2.2.2.1
      have hsz1 : w.heap.size ≤ w1.heap.size := Nat.le_trans hsz hb5.size
      have HX5 := Lib.hid hx5; have HR5 := Lib.hid hrr5; have HAP5 := Lib.hid hap5; have HN5 := Lib.hid hn5; have HB5 := Lib.hid hb5
      clear ho5 hf5 hr5 hb5 hx5 hrr5 hap5 hn5 HO HP HX HFX HHX
      cases h1 : x.ro.kind == 1 with
      | false =>
        have hst : ¬ (x.ro.kind = 1 ∧ x.ro.data.toList = []) := fun h => by rw [h.1] at h1; cases h1
        have hk1 : ¬ x.ro.kind = 1 := beq_eq_false_iff_ne.1 h1
        have HS : Hid (stepN (ros acc) x.ro = ros acc ++ [x.ro]) := by
          rcases List.eq_nil_or_concat (ros acc) with e | ⟨i0, y0, e⟩
          · rw [e]; exact stepN_first hst
          · rw [e, List.concat_eq_append]; exact stepN_more hst (fun h => hk1 h.1)
        clear hst hk1
        obtain ⟨va, ca, hva, hca1, _, _, _⟩ := HO1.out.form
        subst hva
        go_wp2
        go_quiet (fail)
        go_wp2_with (at_builtin; refine app_rows (w1.drewN nq) rfl (.tmp 89) (.tmp 90) rfl w.heap.size _ acc [x5] A5 c5 rfl (by exact HO1.out) rfl HN5.out (by exact HR5.out) (by exact HAP5.out) (by simp; omega) hsz1 ?_; intro v3 w3 ho3 hk3 _)
        go_roundw
        case rel =>
          exact ⟨k + 1, acc ++ [x5], by go_num, by omega, by simp at hal ⊢; omega, ho3, by rw [ros_append, HST.out, HS.out, ← HX5.out]; rfl, hk3 w (below_dN (hbel.trans (HB5.out.mono hsz)) nq)⟩
        case measure => simp [intOf]; omega
      | true =>
        have hk1 : x.ro.kind = 1 := beq_iff_eq.1 h1
        by_cases hD : x.ro.data.toList = []
        · have hDe : x.ro.data.toList.isEmpty = true := by rw [hD]; rfl
          have HS := Lib.hid (stepN_empty (acc := ros acc) hk1 hD)
          clear hk1
          obtain ⟨va, ca, hva, hca1, _, _, _⟩ := HO1.out.form
          subst hva
          go_wp2
          go_roundw
          case rel => exact ⟨k + 1, acc, by go_num, by omega, by omega, HO1.out, by rw [HST.out, HS.out], hbel.trans (HB5.out.mono hsz)⟩
          case measure => simp [intOf]; omega
        · have hDe : x.ro.data.toList.isEmpty = false := by
            cases e : x.ro.data.toList with
            | nil => exact absurd e hD
            | cons _ _ => rfl
          have hst : ¬ (x.ro.kind = 1 ∧ x.ro.data.toList = []) := fun h => hD h.2
          rcases List.eq_nil_or_concat acc with hacc | ⟨init, y, hacc⟩
          · subst hacc
            have HS : Hid (stepN (ros []) x.ro = ros [] ++ [x.ro]) := Lib.hid (stepN_first hst)
            clear hst hk1
            obtain ⟨va, ca, hva, hca1, _, _, _⟩ := HO1.out.form
            subst hva
            have hz : decide (0 < 0) = false := rfl
            go_wp2
            go_quiet (fail)
            go_wp2_with (at_builtin; refine app_rows (w1.drewN nq) rfl (.tmp 89) (.tmp 90) rfl w.heap.size _ [] [x5] A5 c5 rfl (by exact HO1.out) rfl HN5.out (by exact HR5.out) (by exact HAP5.out) (by simp) hsz1 ?_; intro v3 w3 ho3 hk3 _)
            go_roundw
            case rel =>
              exact ⟨k + 1, [] ++ [x5], by go_num, by omega, by simp, ho3, by rw [ros_append, HST.out, HS.out, ← HX5.out]; rfl, hk3 w (below_dN (hbel.trans (HB5.out.mono hsz)) nq)⟩
            case measure => simp [intOf]; omega
          · rw [List.concat_eq_append] at hacc
            subst hacc
            obtain ⟨g, cap, hv, hcap, hcm, hg1, hg2, hyc⟩ := HO1.out.pos
            subst hv
            unfold maxLen at hcm
            obtain ⟨y0, y1, y2, y3, y4⟩ := range5 (v0 := .int .i64 y.ro.depth) (v1 := .int .i64 y.ro.kind) (v2 := .string y.ro.name) (v3 := .string y.ro.data) (v4 := .slice y.A y.ro.attrs.length y.c) hyc
            have hil : (init ++ [y]).length = init.length + 1 := by simp
            have hil2 : init.length ≤ 1000000 := by rw [hil] at hal; omega
            have hros : ros (init ++ [y]) = ros init ++ [y.ro] := ros_append _ _
            cases hyk : y.ro.kind == 1 with
            | false =>
              have HS : Hid (stepN (ros (init ++ [y])) x.ro = ros (init ++ [y]) ++ [x.ro]) := Lib.hid (by rw [hros]; exact stepN_more hst fun h => beq_eq_false_iff_ne.1 hyk h.2.1)
              clear hst hk1 hyc hil hros
              go_wp2
              go_quiet (fail)
              go_wp2_with (at_builtin; refine app_rows (w1.drewN nq) rfl (.tmp 89) (.tmp 90) rfl w.heap.size _ (init ++ [y]) [x5] A5 c5 rfl (by exact HO1.out) rfl HN5.out (by exact HR5.out) (by exact HAP5.out) (by simp; omega) hsz1 ?_; intro v3 w3 ho3 hk3 _)
              go_roundw
              case rel =>
                exact ⟨k + 1, (init ++ [y]) ++ [x5], by go_num, by omega, by simp at hal ⊢; omega, ho3, by rw [ros_append, HST.out, HS.out, ← HX5.out]; rfl, hk3 w (below_dN (hbel.trans (HB5.out.mono hsz)) nq)⟩
              case measure => simp [intOf]; omega
            | true =>
              cases hyd : y.ro.depth == x.ro.depth with
              | false =>
                have HS : Hid (stepN (ros (init ++ [y])) x.ro = ros (init ++ [y]) ++ [x.ro]) := Lib.hid (by rw [hros]; exact stepN_more hst fun h => beq_eq_false_iff_ne.1 hyd h.2.2)
                clear hst hk1 hyc hil hros
                go_wp2
                go_quiet (fail)
                go_wp2_with (at_builtin; refine app_rows (w1.drewN nq) rfl (.tmp 89) (.tmp 90) rfl w.heap.size _ (init ++ [y]) [x5] A5 c5 rfl (by exact HO1.out) rfl HN5.out (by exact HR5.out) (by exact HAP5.out) (by simp; omega) hsz1 ?_; intro v3 w3 ho3 hk3 _)
                go_roundw
                case rel =>
                  exact ⟨k + 1, (init ++ [y]) ++ [x5], by go_num, by omega, by simp at hal ⊢; omega, ho3, by rw [ros_append, HST.out, HS.out, ← HX5.out]; rfl, hk3 w (below_dN (hbel.trans (HB5.out.mono hsz)) nq)⟩
                case measure => simp [intOf]; omega
              | true =>
                have HS : Hid (stepN (ros (init ++ [y])) x.ro = ros init ++ [{ y.ro with data := y.ro.data ++ x.ro.data }]) := Lib.hid (by rw [hros]; exact stepN_join hst ⟨hk1, beq_iff_eq.1 hyk, beq_iff_eq.1 hyd⟩)
                have hb2 : y.ro.data.size + x.ro.data.size ≤ 140737488351232 := by
                  have := HTL.out
                  rw [hros, txt_append, txt_text (beq_iff_eq.1 hyk), txt_text hk1, List.length_append, size_L, size_L] at this
                  omega
                have hya := HO1.out.2 y (by simp)
                have HYA := Lib.hid hya
                clear hst hk1 hil hros hya
                go_wp2
                go_quiet (fail)
                obtain ⟨w2, hw2⟩ : ∃ w2, w1.drewN nq = w2 := ⟨_, rfl⟩
                have hb12 : Below w1.heap.size w1 w2 := hw2 ▸ below_dN (Below.refl _ w1) nq
                have hs12 : w2.heap.size = w1.heap.size := by rw [← hw2]; rfl
                have hyr : w2.rangeAt g (init.length * 5) [.int .i64 y.ro.depth, .int .i64 y.ro.kind, .string y.ro.name, .string y.ro.data, .slice y.A y.ro.attrs.length y.c] := hw2 ▸ hyc
                have hx3 : w2.cell? ⟨b, off + k * 5 + 3, none⟩ = some (.string x.ro.data) := hw2 ▸ g3
                rw [hw2]
                clear hw2 hyc y0 y1 y2 y3 y4 g0 g1 g3
                have HB12 := Lib.hid hb12; have HS12 := Lib.hid hs12
                clear hb12 hs12
                go_wp2_with (refine wpList_load_mid rfl 36 (.tmp 73) rfl g (init.length * 5) rfl _ _ hyr Try.underlying36 rfl size_row ?_)
                have HO2 : Hid (Ow w.heap.size w2 _ (init ++ [y])) := Lib.hid (HO1.out.below HB12.out)
                obtain ⟨W3, hW3⟩ : ∃ W3, w2.alloc (rowO y) = W3 := ⟨_, rfl⟩
                obtain ⟨c0, c1, c2, c3, c4, cf⟩ := box_new w2 y
                have hx3' : (w2.alloc (rowO y)).cell? ⟨b, off + k * 5 + 3, none⟩ = some (.string x.ro.data) := (World.cell?_alloc_some w2 _ _ (by rw [hx3]; rfl)).trans hx3
                have hB3 : Below w2.heap.size w2 (w2.alloc (rowO y)) := below_new w2 _
                rw [hW3] at c0 c1 c2 c3 c4 cf hx3' hB3
                show Code.wp _ _ _ _ (w2.alloc (rowO y))
                rw [hW3]
                have HB3 := Lib.hid hB3
                clear hW3 hB3 hx3 hyr
                obtain ⟨n2, hn2⟩ : ∃ n2, w2.heap.size = n2 := ⟨_, rfl⟩
                rw [hn2] at c0 c1 c2 c3 c4 cf ⊢
                have cf3 := cf 3
                clear cf
                have HN2 := Lib.hid hn2
                clear hn2
                have hb3 : ¬ (y.ro.data.size + x.ro.data.size > 9223372036854775807) := by omega
                go_still_tail 9, (by kernel_rfl)
                change wpList _ _ _ _ _ W3.drew
                obtain ⟨W4, hW4⟩ : ∃ W4, W3.drew = W4 := ⟨_, rfl⟩
                have hB4 : Below W3.heap.size W3 W4 := hW4 ▸ below_dN (Below.refl _ W3) 1
                replace c0 : W4.cell? ⟨n2, 0, none⟩ = some (.int .i64 y.ro.depth) := by rw [← hW4]; exact c0
                replace c1 : W4.cell? ⟨n2, 1, none⟩ = some (.int .i64 y.ro.kind) := by rw [← hW4]; exact c1
                replace c2 : W4.cell? ⟨n2, 2, none⟩ = some (.string y.ro.name) := by rw [← hW4]; exact c2
                replace c3 : W4.cell? ⟨n2, 3, none⟩ = some (.string y.ro.data) := by rw [← hW4]; exact c3
                replace c4 : W4.cell? ⟨n2, 4, none⟩ = some (.slice y.A y.ro.attrs.length y.c) := by rw [← hW4]; exact c4
                replace cf3 : W4.frozen? ⟨n2, 3, none⟩ = false := by rw [← hW4]; exact cf3
                rw [hW4]
                have HB4 := Lib.hid (bt HB3.out hB4)
                clear hW4 hB4 hx3'
                have hB5 : Below w2.heap.size w2 (W4.setCell ⟨n2, 3, none⟩ (.string (y.ro.data ++ x.ro.data))) := HB4.out.setCell (by rw [HN2.out]; exact Nat.le_refl _) _
                have HO5 := Lib.hid (HO2.out.below hB5)
                have HB5' := Lib.hid hB5
                clear hB5
                have HT : Hid ((W4.setCell ⟨n2, 3, none⟩ (.string (y.ro.data ++ x.ro.data))).there g (init.length * 5) (#[.int .i64 y.ro.depth, .int .i64 y.ro.kind, .string y.ro.name, .string (y.ro.data ++ x.ro.data), .slice y.A y.ro.attrs.length y.c] : Array Value).size) := Lib.hid HO5.out.there
                have H1 : Hid ((#[.int .i64 y.ro.depth, .int .i64 y.ro.kind, .string y.ro.name, .string (y.ro.data ++ x.ro.data), .slice y.A y.ro.attrs.length y.c] : Array Value).all (·.oneCell') = true) := Lib.hid (one5 _ _ _ _ _ _ _)
                go_wp2_with (show wpList _ _ _ (⟨none, Op.store 36 (.tmp 88) (.tmp 87), _, _, _, _⟩ :: _) _ _; refine wpList_store_mid rfl 36 (.tmp 88) (.tmp 87) rfl g (init.length * 5) #[.int .i64 y.ro.depth, .int .i64 y.ro.kind, .string y.ro.name, .string (y.ro.data ++ x.ro.data), .slice y.A y.ro.attrs.length y.c] rfl rfl HT.out size_row H1.out ?_)
                have hat5 : Att (W4.setCell ⟨n2, 3, none⟩ (.string (y.ro.data ++ x.ro.data))) (W4.setCell ⟨n2, 3, none⟩ (.string (y.ro.data ++ x.ro.data))).heap.size (joinRow y x) := (((show Att w1 w1.heap.size (joinRow y x) from HYA.out.1).below HB12.out).more HB12.out.size |>.below HB5'.out).more HB5'.out.size
                have hap5' : Ap (W4.setCell ⟨n2, 3, none⟩ (.string (y.ro.data ++ x.ro.data))) w.heap.size (joinRow y x) := ((show Ap w1 w.heap.size (joinRow y x) from HYA.out.2).below HB12.out).below HB5'.out
                obtain ⟨ho6, hg6⟩ := HO5.out.last hat5 hap5'
                have hs2 : w.heap.size ≤ w2.heap.size := Nat.le_trans hsz1 HB12.out.size
                have hb6 := ((hbel.trans (HB5.out.mono hsz)).trans (HB12.out.mono hsz1)).trans (HB5'.out.mono hs2)
                have hb7 := hb6.grown hg6 hb6.size fun q hq => by injection hq with hq; omega
                have HO6 := Lib.hid ho6; have HB7 := Lib.hid hb7
                clear ho6 hb7 hg6 hb6 hap5' hat5
                go_roundw
                case rel => exact ⟨k + 1, init ++ [joinRow y x], by go_num, by omega, by simp at hal ⊢; omega, HO6.out, by rw [HST.out, HS.out, ros_append]; rfl, HB7.out⟩
                case measure => simp [intOf]; omega
    · rw [List.take_of_length_le (by omega)] at hros
      have HR := Lib.hid hros
      clear hros hrw
      go_wp2
      go_ret
      exact ⟨_, acc, rfl, hown, HR.out, hbel⟩

end Go.Proofs.Ytgjlfcamgkeibaa.Ro

namespace Go.Proofs.Ytgjlfcamgkeibaa.Ro
set_option maxRecDepth 100000
set_option linter.unusedVariables false
set_option linter.unusedSimpArgs false
open Go.RowKit Ba
theorem At.eta (a b : At) (h : ¬ a = b) : ¬ a.name = b.name ∨ (a.name = b.name ∧ ¬ a.value = b.value) := by
  by_cases hn : a.name = b.name
  · exact .inr ⟨hn, fun hv => h (by cases a; cases b; simp_all)⟩
  · exact .inl hn
theorem neq_L {a b : ByteArray} (h : ¬ a = b) : ¬ a.toList = b.toList := fun e => h (L_inj (by rw [← toList_L, ← toList_L, e]))
theorem dec_cons {α : Type} [DecidableEq α] {x y : α} {r s : List α} {V : Bool} (h : decide (x :: r = y :: s) = V) : (x = y → decide (r = s) = V) ∧ (¬ x = y → V = false) := by
  constructor
  · intro e
    rw [← h, e]
    simp
  · intro e
    rw [← h]
    exact decide_eq_false fun e2 => e (by injection e2)

set_option maxRecDepth 100000 in
set_option maxHeartbeats 1000000 in
theorem refAttrs_any (A B : Option Addr) (ca cb : Nat) (xs ys : List At) (w : World) (hra : Ra w w.heap.size A xs) (hrb : Ra w w.heap.size B ys) (hca : xs.length ≤ ca) (hcb : ys.length ≤ cb) (hma : ca ≤ maxLen) (hmb : cb ≤ maxLen) :
    Calls Try.prog 11 #[.slice A xs.length ca, .slice B ys.length cb] w fun e w' => e = .returned (.bool (decide (xs = ys))) ∧ ∃ n, w' = w.drewN n := by
  unfold maxLen at hma hmb
  by_cases hlen : xs.length = ys.length
  · obtain ⟨V, hV⟩ : ∃ V, decide (xs = ys) = V := ⟨_, rfl⟩
    rw [hV]
    have hne : ((xs.length : Int) != (ys.length : Int)) = false := by rw [hlen]; simp
    have HV := Lib.hid hV; have HL := Lib.hid hlen
    clear hV hlen
    go_enter Try.func11, Try.ntmps11
    go_wp2
    go_loopw [5] (fun i wr => ∃ k : Nat, i = .int .i64 k ∧ k ≤ xs.length ∧ decide (xs.drop k = ys.drop k) = V ∧ ∃ n, wr = w.drewN n) (fun i _ => xs.length - (intOf i).toNat)
    case atStart => exact ⟨0, rfl, by omega, HV.out, 0, rfl⟩
    case round =>
      clear HV
      obtain ⟨k, rfl, hk, hv, n, rfl⟩ := hrel
      by_cases hp : k < xs.length
      · obtain ⟨b1, o1, x, rfl, _, hdx, hx, _⟩ := hra.at_ k hp
        have hp2 : k < ys.length := by have := HL.out; omega
        obtain ⟨b2, o2, y, rfl, _, hdy, hy, _⟩ := hrb.at_ k hp2
        rw [hdx, hdy] at hv
        obtain ⟨v1, v2⟩ := dec_cons hv
        clear hv hdx hdy
        by_cases hxy : x = y
        · subst hxy
          have HV := Lib.hid (v1 rfl)
          clear v1 v2
          obtain ⟨f1, f2⟩ := range2 hx
          obtain ⟨f3, f4⟩ := range2 hy
          clear hx hy
          go_wp2
          go_quiet (fail)
          go_wp2
          go_roundw
          case rel => exact ⟨k + 1, by go_num, by omega, HV.out, _, rfl⟩
          case measure => simp [intOf]; omega
        · obtain rfl := v2 hxy
          clear v1 v2
          rcases At.eta x y hxy with h | ⟨h, h'⟩
          · have h1 := neq_L h
            clear h hxy
            obtain ⟨f1, f2⟩ := range2 hx
            obtain ⟨f3, f4⟩ := range2 hy
            clear hx hy
            go_wp2
            go_quiet (fail)
            go_wp2
            go_ret
            exact ⟨rfl, _, World.drewN_drewN _ _ _⟩
          · have h1 := neq_L h'
            have h2 : y.name = x.name := h.symm
            rw [h2] at hy
            clear h h' hxy h2
            obtain ⟨f1, f2⟩ := range2 hx
            obtain ⟨f3, f4⟩ := range2 hy
            clear hx hy
            go_wp2
            go_quiet (fail)
            go_wp2
            go_ret
            exact ⟨rfl, _, World.drewN_drewN _ _ _⟩
      · rw [List.drop_eq_nil_of_le (by omega), List.drop_eq_nil_of_le (by have := HL.out; omega)] at hv
        have HV := Lib.hid hv
        clear hv
        go_wp2
        go_ret
        exact ⟨ret_bool (by rw [← HV.out]; rfl), _, rfl⟩
  · have e : decide (xs = ys) = false := decide_eq_false fun e => hlen (by rw [e])
    rw [e]
    have hne : ((xs.length : Int) != (ys.length : Int)) = true := by rw [bne_iff_ne]; omega
    clear e hlen
    go_enter Try.func11, Try.ntmps11
    go_wp2
    go_ret
    exact ⟨rfl, 0, rfl⟩

end Go.Proofs.Ytgjlfcamgkeibaa.Ro

namespace Go.Proofs.Ytgjlfcamgkeibaa.Ro
set_option linter.unusedVariables false
set_option linter.unusedSimpArgs false
open Go.RowKit Ba
theorem ro_eq (x y : Ro) : decide (x = y) = ((x.depth == y.depth) && ((x.kind == y.kind) && ((x.name.toList == y.name.toList) && ((x.data.toList == y.data.toList) && decide (x.attrs = y.attrs))))) := by
  rw [eq_of_toList, eq_of_toList, Bool.eq_iff_iff]
  cases x
  cases y
  simp

theorem ros_drop_eq {l r : List Cw} {k : Nat} {x y : Cw} {V : Bool} (hx : l.drop k = x :: l.drop (k + 1)) (hy : r.drop k = y :: r.drop (k + 1)) (h : decide (ros (l.drop k) = ros (r.drop k)) = V) :
    (x.ro = y.ro → decide (ros (l.drop (k + 1)) = ros (r.drop (k + 1))) = V) ∧ (¬ x.ro = y.ro → V = false) := by
  rw [hx, hy, ros_cons, ros_cons] at h
  exact dec_cons h

end Go.Proofs.Ytgjlfcamgkeibaa.Ro

namespace Go.Proofs.Ytgjlfcamgkeibaa.Ro
set_option maxRecDepth 100000
set_option linter.unusedVariables false
set_option linter.unusedSimpArgs false
open Go.RowKit Ba
theorem two_boxes (w : World) (x y : Cw) : ((w.alloc (rowO x)).alloc (rowO y)).drew.rangeAt w.heap.size 0 (cells x) ∧ ((w.alloc (rowO x)).alloc (rowO y)).drew.rangeAt (w.heap.size + 1) 0 (cells y) ∧ Below w.heap.size w ((w.alloc (rowO x)).alloc (rowO y)).drew := by
  have hb : Below w.heap.size w ((w.alloc (rowO x)).alloc (rowO y)) := (below_new w (rowO x)).alloc (by simp) _
  refine ⟨fun j v hv => ?_, fun j v hv => ?_, below_dN hb 1⟩
  · rw [Nat.zero_add]
    refine Eq.trans ?_ hv
    exact (World.cell?_alloc_lt _ _ ⟨w.heap.size, j, none⟩ (by simp)).trans (box_at w x j)
  · rw [Nat.zero_add]
    refine Eq.trans ?_ hv
    have e : w.heap.size + 1 = (w.alloc (rowO x)).heap.size := by simp
    rw [e]
    exact box_at (w.alloc (rowO x)) y j
theorem range5z {w : World} {b : Nat} {x : Cw} (h : w.rangeAt b 0 (cells x)) : w.cell? ⟨b, 0, none⟩ = some (.int .i64 x.ro.depth) ∧ w.cell? ⟨b, 1, none⟩ = some (.int .i64 x.ro.kind) ∧ w.cell? ⟨b, 2, none⟩ = some (.string x.ro.name) ∧ w.cell? ⟨b, 3, none⟩ = some (.string x.ro.data) ∧ w.cell? ⟨b, 4, none⟩ = some (.slice x.A x.ro.attrs.length x.c) :=
  ⟨h 0 _ rfl, h 1 _ rfl, h 2 _ rfl, h 3 _ rfl, h 4 _ rfl⟩

set_option maxRecDepth 100000 in
set_option maxHeartbeats 1000000 in
theorem refSame_any (A B : Option Addr) (ca cb : Nat) (l r : List Cw) (w : World) (hl : Rr w w.heap.size A l) (hr : Rr w w.heap.size B r) (hca : l.length ≤ ca) (hcb : r.length ≤ cb) (hml : l.length ≤ 1000000) (hmr : r.length ≤ 1000000) :
    Calls Try.prog 10 #[.slice A l.length ca, .slice B r.length cb] w fun e w' => e = .returned (.bool (decide (ros l = ros r))) ∧ Below w.heap.size w w' := by
  by_cases hlen : l.length = r.length
  · obtain ⟨V, hV⟩ : ∃ V, decide (ros l = ros r) = V := ⟨_, rfl⟩
    rw [hV]
    have hne : ((l.length : Int) != (r.length : Int)) = false := by rw [hlen]; simp
    have HV := Lib.hid hV; have HL := Lib.hid hlen
    clear hV hlen
    go_enter Try.func10, Try.ntmps10
    go_wp2
    go_loopw [5] (fun i wr => ∃ k : Nat, i = .int .i64 k ∧ k ≤ l.length ∧ decide (ros (l.drop k) = ros (r.drop k)) = V ∧ Below w.heap.size w wr) (fun i _ => l.length - (intOf i).toNat)
    case atStart => exact ⟨0, rfl, by omega, HV.out, Below.refl _ _⟩
    case round =>
      clear HV
      obtain ⟨k, rfl, hk, hv, hbel⟩ := hrel
      have hsz := hbel.size
      by_cases hp : k < l.length
      · obtain ⟨b1, o1, x, rfl, _, hdx, hx, hxa, _⟩ := (hl.below hbel).at_ k hp
        have hp2 : k < r.length := by have := HL.out; omega
        obtain ⟨b2, o2, y, rfl, _, hdy, hy, hya, _⟩ := (hr.below hbel).at_ k hp2
        obtain ⟨v1, v2⟩ := ros_drop_eq hdx hdy hv
        have HXA := Lib.hid (hxa.more hsz); have HYA := Lib.hid (hya.more hsz)
        have V1 := Lib.hid v1; have V2 := Lib.hid v2
        obtain ⟨f0, f1, f2, f3, f4⟩ := range5 hx
        obtain ⟨g0, g1, g2, g3, g4⟩ := range5 hy
        clear hv hdx hdy hxa hya v1 v2 hx hy
        have ef0 := World.new_ne wr _ f0
        have eg0 := World.new_ne wr _ g0
        go_upto_region 6 with (fail)
        go_cut [6, 7] from 13 to 60 (fun s6 s7 wx => ∃ g h, s6 = .pointer (some ⟨g, 0, none⟩) ∧ s7 = .pointer (some ⟨h, 0, none⟩) ∧ wx.rangeAt g 0 (cells x) ∧ wx.rangeAt h 0 (cells y) ∧ Below wr.heap.size wr wx)
        case first =>
          go_region_held3 (fun w' => w'.cell? ⟨b1, o1 + k * 5, none⟩ = some (.int .i64 x.ro.depth) ∧ w'.cell? ⟨b1, o1 + k * 5 + 1, none⟩ = some (.int .i64 x.ro.kind) ∧ w'.cell? ⟨b1, o1 + k * 5 + 2, none⟩ = some (.string x.ro.name) ∧ w'.cell? ⟨b1, o1 + k * 5 + 3, none⟩ = some (.string x.ro.data) ∧ w'.cell? ⟨b1, o1 + k * 5 + 4, none⟩ = some (.slice x.A x.ro.attrs.length x.c) ∧ w'.cell? ⟨b2, o2 + k * 5, none⟩ = some (.int .i64 y.ro.depth) ∧ w'.cell? ⟨b2, o2 + k * 5 + 1, none⟩ = some (.int .i64 y.ro.kind) ∧ w'.cell? ⟨b2, o2 + k * 5 + 2, none⟩ = some (.string y.ro.name) ∧ w'.cell? ⟨b2, o2 + k * 5 + 3, none⟩ = some (.string y.ro.data) ∧ w'.cell? ⟨b2, o2 + k * 5 + 4, none⟩ = some (.slice y.A y.ro.attrs.length y.c)) (go_keep) (first | fail)
          all_goals go_wp2_with fail
          all_goals go_meet
          · obtain ⟨q1, q2, q3⟩ := two_boxes wr x y
            exact ⟨_, _, rfl, rfl, q1, q2, q3⟩
          · obtain ⟨q1, q2, q3⟩ := two_boxes wr y x
            exact ⟨_, _, rfl, rfl, q2, q1, q3⟩
        case rest =>
          obtain ⟨g, h, rfl, rfl, hg, hh, hb2⟩ := hcut
          have HX := Lib.hid ((HXA.out.2.2.2.1.below hb2).more hb2.size); have HY := Lib.hid ((HYA.out.2.2.2.1.below hb2).more hb2.size); have HB := Lib.hid (hbel.trans (hb2.mono hsz))
          have a1 := HXA.out.1; have a2 := HXA.out.2.2.1; have a3 := HYA.out.1; have a4 := HYA.out.2.2.1
          obtain ⟨c0, c1, c2, c3, c4⟩ := range5z hg
          obtain ⟨d0, d1, d2, d3, d4⟩ := range5z hh
          clear hg hh hb2 f0 f1 f2 f3 f4 g0 g1 g2 g3 g4 ef0 eg0
          cases h1 : x.ro.depth == y.ro.depth with
          | false =>
            obtain rfl := V2.out (fun e => by rw [e] at h1; simp at h1)
            have n1 : (x.ro.depth != y.ro.depth) = true := by rw [bne, h1]; rfl
            go_wp2
            go_ret
            exact ⟨rfl, HB.out⟩
          | true =>
          have n1 : (x.ro.depth != y.ro.depth) = false := by rw [bne, h1]; rfl
          cases h2 : x.ro.kind == y.ro.kind with
          | false =>
            obtain rfl := V2.out (fun e => by rw [e] at h2; simp at h2)
            have n2 : (x.ro.kind != y.ro.kind) = true := by rw [bne, h2]; rfl
            go_wp2
            go_ret
            exact ⟨rfl, HB.out⟩
          | true =>
          have n2 : (x.ro.kind != y.ro.kind) = false := by rw [bne, h2]; rfl
          cases h3 : x.ro.name.toList == y.ro.name.toList with
          | false =>
            obtain rfl := V2.out (fun e => by rw [e] at h3; simp at h3)
            go_wp2
            go_ret
            exact ⟨rfl, HB.out⟩
          | true =>
          cases h4 : x.ro.data.toList == y.ro.data.toList with
          | false =>
            obtain rfl := V2.out (fun e => by rw [e] at h4; simp at h4)
            go_wp2
            go_ret
            exact ⟨rfl, HB.out⟩
          | true =>
          by_cases h5 : x.ro.attrs = y.ro.attrs
          · have hxy : x.ro = y.ro := of_decide_eq_true (by rw [ro_eq, h1, h2, h3, h4, decide_eq_true h5]; rfl)
            have HV := Lib.hid (V1.out hxy)
            have H5 := Lib.hid h5
            clear hxy h5
            go_wp2_with fail
            refine (refAttrs_any x.A y.A x.c y.c x.ro.attrs y.ro.attrs wc HX.out HY.out a1 a3 a2 a4).mono ?_
            rintro e w3 ⟨rfl, n, rfl⟩
            rw [decide_eq_true H5.out]
            go_wp2
            go_roundw
            case rel => exact ⟨k + 1, by go_num, by omega, HV.out, below_dN HB.out _⟩
            case measure => simp [intOf]; omega
          · obtain rfl := V2.out (fun e => h5 (by rw [e]))
            have H5 := Lib.hid h5
            clear h5
            go_wp2_with fail
            refine (refAttrs_any x.A y.A x.c y.c x.ro.attrs y.ro.attrs wc HX.out HY.out a1 a3 a2 a4).mono ?_
            rintro e w3 ⟨rfl, n, rfl⟩
            rw [decide_eq_false H5.out]
            go_wp2
            go_ret
            exact ⟨rfl, below_dN HB.out _⟩
      · rw [List.drop_eq_nil_of_le (by omega), List.drop_eq_nil_of_le (by have := HL.out; omega)] at hv
        have HV := Lib.hid hv
        clear hv
        go_wp2
        go_ret
        exact ⟨ret_bool (by rw [← HV.out]; rfl), hbel⟩
  · have e : decide (ros l = ros r) = false := decide_eq_false fun e => hlen (by rw [← len_ros, e, len_ros])
    rw [e]
    have hne : ((l.length : Int) != (r.length : Int)) = true := by rw [bne_iff_ne]; omega
    clear e hlen
    go_enter Try.func10, Try.ntmps10
    go_wp2
    go_ret
    exact ⟨rfl, Below.refl _ _⟩

end Go.Proofs.Ytgjlfcamgkeibaa.Ro

namespace Go.Proofs.Ytgjlfcamgkeibaa.Ro
set_option linter.unusedVariables false
set_option linter.unusedSimpArgs false
open Go.RowKit Ba Go.Shelf
attribute [local go_sem] Oper.semAt_some

theorem box_own {W W' : World} {B n : Nat} {t : TypeId} {v : Value} {row : Option Nat} (h : Boxed W B t v) (hg : W.grownBy W' row) (hr : ∀ r, row = some r → n ≤ r ∧ ∃ o : Obj, W.heap[r]? = some o ∧ o.isCells = false) : Boxed W' B t v :=
  h.kept hg fun e => by
    obtain ⟨_, o, ho, hc⟩ := hr B e.symm
    rw [show W.heap[B]? = _ from h] at ho
    cases ho
    cases hc

/-- Where the kid of that number stands, or the next one behind all kids would. -/
def placeAt (l : List Ro) (i at_ : Int) : Int × Bool :=
  if 0 ≤ at_ ∧ at_ < (kids l i).length then (((kids l i)[at_.toNat]?.getD 0 : Nat), true) else (endOf l i, decide (((kids l i).length : Int) = at_))

/-- What the rounds leave: the boxes of the number that is sought, the results, and the count. -/
def Pl (w : World) (at_ : Int) (pre : List Nat) (W : World) : Prop :=
  Boxed W (w.heap.size) 3 (.int .i64 at_) ∧ Boxed W (w.heap.size + 1) 3 (.int .i64 0) ∧ Boxed W (w.heap.size + 1 + 1) 4 (.bool false) ∧ Boxed W (w.heap.size + 1 + 1 + 1) 3 (.int .i64 (pre.length : Nat)) ∧ Below w.heap.size w W ∧ w.heap.size + 1 + 1 + 1 + 1 + 1 + 1 ≤ W.heap.size ∧ ¬ (0 ≤ at_ ∧ at_ < pre.length)
def Px (w : World) (at_ : Int) (c : Code) (pre : List Nat) (W : World) : Prop :=
  c = .ret ∧ ∃ q x, pre = q ++ [x] ∧ at_ = (q.length : Nat) ∧ Boxed W (w.heap.size + 1) 3 (.int .i64 (x : Nat)) ∧ Boxed W (w.heap.size + 1 + 1) 4 (.bool true) ∧ Below w.heap.size w W
theorem Pl.own (w : World) (at_ : Int) (n : Nat) (hn : w.heap.size ≤ n) : OwnFrom n (Pl w at_) := fun s W W' row hs hg hr =>
  ⟨box_own hs.1 hg hr, box_own hs.2.1 hg hr, box_own hs.2.2.1 hg hr, box_own hs.2.2.2.1 hg hr, hs.2.2.2.2.1.grown hg hs.2.2.2.2.1.size (fun k hk => Nat.le_trans hn (hr k hk).1), Nat.le_trans hs.2.2.2.2.2.1 hg.size, hs.2.2.2.2.2.2⟩
theorem Px.own (w : World) (at_ : Int) (c : Code) (n : Nat) (hn : w.heap.size ≤ n) : OwnFrom n (Px w at_ c) := fun s W W' row hs hg hr => by
  obtain ⟨hc, q, x, e1, e2, h1, h2, h3⟩ := hs
  exact ⟨hc, q, x, e1, e2, box_own h1 hg hr, box_own h2 hg hr, h3.grown hg h3.size (fun k hk => Nat.le_trans hn (hr k hk).1)⟩
end Go.Proofs.Ytgjlfcamgkeibaa.Ro

namespace Go.Proofs.Ytgjlfcamgkeibaa.Ro
set_option maxRecDepth 100000
set_option linter.unusedVariables false
set_option linter.unusedSimpArgs false
open Go.RowKit Ba
theorem Rn.at_ {w : World} {N : Nat} {A : Option Addr} {l : List Nat} (h : Rn w N A l) (k : Nat) (hk : k < l.length) :
    ∃ b off x, A = some ⟨b, off, none⟩ ∧ b < N ∧ l.drop k = x :: l.drop (k + 1) ∧ w.cell? ⟨b, off + k, none⟩ = some (.int .i64 (x : Nat)) := by
  obtain ⟨b, off, e, hb, hc⟩ := h (by omega)
  exact ⟨b, off, l[k], e, hb, List.drop_eq_getElem_cons hk, hc k hk⟩

theorem refKidsOut_any (A : Option Addr) (n c : Nat) (i : Int) (w : World) (hc : n ≤ c) (hm : n ≤ 1000000) (h : ¬ (-1 ≤ i ∧ i < n)) :
    Calls Try.prog 60 #[.slice A n c, .int .i64 i] w fun e w' => e = .returned (.slice (some ⟨w.heap.size, 0, none⟩) 0 0) ∧ w' = w.alloc (.cells #[] 3) := by
  by_cases h1 : i < -1
  · clear h
    go_enter Try.func60, Try.ntmps60
    go_wp2
    go_ret
    exact ⟨rfl, rfl⟩
  · have h1' : decide (i < -1) = false := decide_eq_false h1
    have h2 : (n : Int) ≤ i := by omega
    clear h
    go_enter Try.func60, Try.ntmps60
    go_wp2
    go_ret
    exact ⟨rfl, rfl⟩

end Go.Proofs.Ytgjlfcamgkeibaa.Ro

namespace Go.Proofs.Ytgjlfcamgkeibaa.Ro
set_option maxRecDepth 100000
set_option linter.unusedVariables false
set_option linter.unusedSimpArgs false
open Go.RowKit Ba
/-- Is it what has the roots, or an element? -/
def elemAt (l : List Ro) (p : Int) : Bool := decide (p = -1) || (decide (0 ≤ p ∧ p < l.length) && decide (((l[p.toNat]?).map (·.kind)).getD 1 = 0))
def put (l : List Ro) (p at_ : Int) (sub : List Ro) : Int × List Ro :=
  if elemAt l p = false then (41, [])
  else if (placeAt l p at_).2 = false then (1, [])
  else if right sub = false then (40, [])
  else if exceeds sub (4096 - l.length) (60 - (dep l p + 1)) = true then (2, [])
  else (0, l.take (placeAt l p at_).1.toNat ++ deeper (dep l p + 1) sub ++ l.drop (placeAt l p at_).1.toNat)

theorem Rr.take {w : World} {N : Nat} {A : Option Addr} {l : List Cw} (h : Rr w N A l) (k : Nat) : Rr w N A (l.take k) := by
  refine ⟨fun h0 => ?_, fun x hx => h.2 x (List.mem_of_mem_take hx)⟩
  rw [List.length_take] at h0
  obtain ⟨b, off, e, hb, hcc⟩ := h.1 (by omega)
  refine ⟨b, off, e, hb, fun j hj => ?_⟩
  rw [List.length_take] at hj
  rw [List.getElem_take]
  exact hcc j (by omega)
theorem Rr.rest {w : World} {N : Nat} {A : Option Addr} {l : List Cw} (h : Rr w N A l) (k cap : Nat) (hk : k ≤ l.length) (hc : l.length ≤ cap) : Rr w N (if cap = k then A else A.map (·.add (k * 5))) (l.drop k) := by
  have := h.part k l.length cap hk (Nat.le_refl _) hc
  rwa [List.take_length] at this
end Go.Proofs.Ytgjlfcamgkeibaa.Ro

namespace Go.Proofs.Ytgjlfcamgkeibaa.Ro
set_option linter.unusedVariables false
set_option linter.unusedSimpArgs false
open Go.RowKit Ba
theorem Deep.held {l : List Ro} (h : Deep l) : Held l := fun x hx => by have := h x hx; omega

end Go.Proofs.Ytgjlfcamgkeibaa.Ro

namespace Go.Proofs.Ytgjlfcamgkeibaa.Ro
set_option maxRecDepth 100000
set_option linter.unusedVariables false
set_option linter.unusedSimpArgs false
open Go.RowKit Ba
/-- A value reads as rows. -/
def Rv (w : World) (v : Value) (l : List Cw) : Prop := ∃ A c, v = .slice A l.length c ∧ l.length ≤ c ∧ c ≤ maxLen ∧ Rr w w.heap.size A l ∧ Held (ros l)
theorem Rv.below {w w' : World} {v : Value} {l : List Cw} (h : Rv w v l) (hb : Below w.heap.size w w') : Rv w' v l := by
  obtain ⟨A, c, e, h1, h2, h3, h4⟩ := h
  exact ⟨A, c, e, h1, h2, (h3.below hb).more hb.size, h4⟩
theorem Ow.rv {N : Nat} {w : World} {v : Value} {l : List Cw} (h : Ow N w v l) (hh : Held (ros l)) : Rv w v l := by
  obtain ⟨A, c, e, h1, h2, _, h3⟩ := h.form
  exact ⟨A, c, e, h1, h2, h3, hh⟩
theorem check1 (v : Value) (x : List Cw) (w : World) (q : Int) (h : Rv w v x) (hl : x.length ≤ 1000000) (hq : check (ros x) = q) :
    Calls Try.prog 27 #[v] w fun e w' => e = .returned (.int .i64 q) ∧ Below w.heap.size w w' := by
  obtain ⟨A, c, rfl, hc, hm, hr, hh⟩ := h
  subst hq
  exact Check_any A c x w hr hc (by omega)
theorem refSame1 (a b : Value) (x y : List Cw) (w : World) (q : Bool) (ha : Rv w a x) (hb : Rv w b y) (hx : x.length ≤ 1000000) (hy : y.length ≤ 1000000) (hq : decide (ros x = ros y) = q) :
    Calls Try.prog 10 #[a, b] w fun e w' => e = .returned (.bool q) ∧ Below w.heap.size w w' := by
  obtain ⟨A, c, rfl, hc, hm, hr, _⟩ := ha
  obtain ⟨B, d, rfl, hd, hm2, hr2, _⟩ := hb
  subst hq
  exact refSame_any A B c d x y w hr hr2 hc hd (by omega) (by omega)
theorem normal1 (v : Value) (x : List Cw) (w : World) (q : List Ro) (h : Rv w v x) (hl : x.length ≤ 1000000) (hf : Few (ros x)) (ht : (txt (ros x)).length ≤ 1000000000) (hq : normal (ros x) = q) (hhq : Held q) :
    Calls Try.prog 28 #[v] w fun e w' => ∃ u y, e = .returned u ∧ Ow w.heap.size w' u y ∧ (∀ z ∈ y, Fr w.heap.size w' z) ∧ ros y = q ∧ Rv w' u y ∧ Below w.heap.size w w' := by
  obtain ⟨A, c, rfl, hc, hm, hr, hh⟩ := h
  refine (Normal_any A c x w hr hc (by omega) ht hf hh).mono ?_
  rintro e w1 ⟨u, y, rfl, ho, hfr, hy, hb⟩
  rw [hq] at hy
  exact ⟨u, y, rfl, ho, hfr, hy, ho.rv (by rw [hy]; exact hhq), hb⟩

/-- A row that has no attributes. -/
def bare (r : Ro) : Cw := ⟨r, none, 0⟩
theorem bare_att (w : World) (N : Nat) {r : Ro} (h : r.attrs = []) : Att w N (bare r) := by
  refine ⟨?_, fun _ => rfl, Nat.zero_le _, ?_, ?_⟩
  · show r.attrs.length ≤ 0
    rw [h]; exact Nat.le_refl _
  · show Ra w N none r.attrs
    rw [h]; exact fun h => absurd h (by simp)
  · show Sh r.attrs
    rw [h]; exact fun _ hx => by simp at hx
theorem bare_ap (w : World) (N : Nat) {r : Ro} (h : r.attrs = []) : Ap w N (bare r) := fun h0 => by
  have h0 : 0 < r.attrs.length := h0
  rw [h] at h0
  exact absurd h0 (by simp)
/-- Rows without attributes, freshly written down. -/
theorem rows_new (w : World) (l : List Cw) (cs : Array Value) (n : Nat) (hn : l.length = n) (hm : n ≤ maxLen) (hcs : cs.toList = l.flatMap cells) (hl : ∀ x ∈ l, ∃ r : Ro, x = bare r ∧ r.attrs = []) :
    Ow w.heap.size (w.alloc (.cells cs 36)) (.slice (some ⟨w.heap.size, 0, none⟩) n n) l := by
  have hfl : (l.flatMap cells).length = n * 5 := by
    rw [← hn]
    clear hcs hl hn
    induction l with
    | nil => rfl
    | cons x r ih => rw [List.flatMap_cons, List.length_append, ih, List.length_cons]; simp [cells]; omega
  have hsz : cs.size = n * 5 := by rw [← Array.length_toList, hcs, hfl]
  refine ⟨⟨by rw [hn, hfl], .inr ⟨w.heap.size, n, cs, by rw [hn], Nat.le_refl _, heap_alloc_new w _, by rw [hn]; exact Nat.le_refl _, hm, hsz, ?_⟩⟩, fun x hx => ?_⟩
  · rw [hn, hcs, ← hfl, List.take_length]
  · obtain ⟨r, rfl, h⟩ := hl x hx
    exact ⟨bare_att _ _ h, bare_ap _ _ h⟩

end Go.Proofs.Ytgjlfcamgkeibaa.Ro

namespace Go.Proofs.Ytgjlfcamgkeibaa.Ro
set_option linter.unusedVariables false
set_option linter.unusedSimpArgs false
open Go.RowKit Ba
def sc : ByteArray := { data := #[99] }
end Go.Proofs.Ytgjlfcamgkeibaa.Ro

namespace Go.Proofs.Ytgjlfcamgkeibaa.Ro
set_option maxRecDepth 100000
set_option linter.unusedVariables false
set_option linter.unusedSimpArgs false
open Go.RowKit Ba
end Go.Proofs.Ytgjlfcamgkeibaa.Ro

namespace Go.Proofs.Ytgjlfcamgkeibaa.Ro
set_option linter.unusedVariables false
set_option linter.unusedSimpArgs false
open Go.RowKit Ba
/-- From one row to the next it goes at most one deeper, and only below an element. -/
theorem right_step : ∀ (l : List Ro) (m : Int), rightFrom m l = true → ∀ k x y, l[k]? = some x → l[k + 1]? = some y → y.depth ≤ x.depth + 1 ∧ (x.kind ≠ 0 → y.depth ≤ x.depth)
  | [], _, _, k, x, y, h, _ => by simp at h
  | a :: r, m, h, k, x, y, hx, hy => by
    rw [rightFrom] at h
    simp only [Bool.and_eq_true, decide_eq_true_eq] at h
    cases k with
    | zero =>
      obtain rfl : a = x := by simpa using hx
      have hy : r[0]? = some y := by simpa using hy
      cases r with
      | nil => simp at hy
      | cons b r =>
        obtain rfl : b = y := by simpa using hy
        have h2 := h.2
        rw [rightFrom] at h2
        simp only [Bool.and_eq_true, decide_eq_true_eq] at h2
        have := h2.1.1.2
        by_cases hk : a.kind = 0
        · rw [if_pos hk] at this
          exact ⟨by omega, fun e => absurd hk e⟩
        · rw [if_neg hk] at this
          exact ⟨by omega, fun _ => this⟩
    | succ k => exact right_step r _ h.2 k x y (by simpa using hx) (by simpa using hy)

theorem empty_name {s : ByteArray} (h : s.toList.isEmpty = true) : s = .empty := by
  rw [List.isEmpty_iff, toList_L] at h
  rw [← B_L s, h]
  rfl
theorem text_form {x : Ro} (h : okRow x = true) (hk : x.kind = 1) : x = ⟨x.depth, 1, .empty, x.data, []⟩ := by
  rw [okRow, if_neg (by rw [hk]; decide)] at h
  simp only [Bool.and_eq_true] at h
  have h1 := empty_name h.1.2
  have h2 := h.2
  obtain ⟨d, k, n, t, a⟩ := x
  simp only at hk h1 h2 ⊢
  subst hk
  subst h1
  cases a with
  | nil => rfl
  | cons u r =>
    exfalso
    rw [beq_iff_eq, List.length_cons] at h2
    omega

theorem group_on (d : Int) : ∀ (g acc : List Ro) (s : ByteArray), (∀ x ∈ g, x = ⟨d, 1, .empty, x.data, []⟩) → g.foldl stepN (acc ++ [⟨d, 1, .empty, s, []⟩]) = acc ++ [⟨d, 1, .empty, B (L s ++ txt g), []⟩]
  | [], acc, s, _ => by rw [List.foldl_nil, txt, List.append_nil, B_L]
  | x :: r, acc, s, h => by
    have hx := h x List.mem_cons_self
    have hk : x.kind = 1 := by rw [hx]
    have hd : x.depth = d := by rw [hx]
    rw [List.foldl_cons, txt, if_pos hk]
    by_cases he : x.data.toList = []
    · rw [stepN_empty hk he, group_on d r acc s fun y hy => h y (List.mem_cons_of_mem _ hy)]
      rw [toList_L] at he
      rw [he, List.nil_append]
    · rw [stepN_join (fun e => he e.2) ⟨hk, rfl, hd.symm⟩, group_on d r acc (s ++ x.data) fun y hy => h y (List.mem_cons_of_mem _ hy)]
      rw [L_append, List.append_assoc]

/-- The last of them is no text at this depth. -/
def NoTx (d : Int) (acc : List Ro) : Prop := ∀ y, acc.getLast? = some y → ¬ (y.kind = 1 ∧ y.depth = d)
theorem step_apart {acc : List Ro} {x : Ro} (h : NoTx x.depth acc) (he : ¬ (x.kind = 1 ∧ x.data.toList = [])) : stepN acc x = acc ++ [x] := by
  rw [stepN, if_neg he]
  cases hl : acc.getLast? with
  | none => rfl
  | some y =>
    show (if x.kind = 1 ∧ y.kind = 1 ∧ y.depth = x.depth then _ else acc ++ [x]) = _
    rw [if_neg fun e => h y hl ⟨e.2.1, e.2.2⟩]
def joinedTx (d : Int) (t : List UInt8) : List Ro := if t = [] then [] else [⟨d, 1, .empty, B t, []⟩]
theorem group_new (d : Int) : ∀ (g acc : List Ro), (∀ x ∈ g, x = ⟨d, 1, .empty, x.data, []⟩) → NoTx d acc → g.foldl stepN acc = acc ++ joinedTx d (txt g)
  | [], acc, _, _ => by rw [List.foldl_nil, txt, joinedTx, if_pos rfl, List.append_nil]
  | x :: r, acc, h, hn => by
    have hx := h x List.mem_cons_self
    have hk : x.kind = 1 := by rw [hx]
    have hd : x.depth = d := by rw [hx]
    rw [List.foldl_cons, txt, if_pos hk]
    by_cases he : x.data.toList = []
    · rw [stepN_empty hk he, group_new d r acc (fun y hy => h y (List.mem_cons_of_mem _ hy)) hn]
      rw [toList_L] at he
      rw [he, List.nil_append]
    · rw [step_apart (by rw [hd]; exact hn) (fun e => he e.2), hx, group_on d r acc x.data fun y hy => h y (List.mem_cons_of_mem _ hy)]
      rw [toList_L] at he
      rw [joinedTx, if_neg (by simp [he])]

theorem right_same (d : Int) : ∀ (n : Nat) (r : List Ro), rightFrom d r = true → (∀ x ∈ r.take n, x.kind = 1 ∧ x.depth = d) → rightFrom d (r.drop n) = true
  | 0, r, h, _ => h
  | n + 1, [], h, _ => h
  | n + 1, x :: r, h, ht => by
    rw [rightFrom] at h
    simp only [Bool.and_eq_true, decide_eq_true_eq] at h
    have hx := ht x (by simp)
    have h2 := h.2
    rw [if_neg (by rw [hx.1]; decide), hx.2] at h2
    exact right_same d n r h2 fun y hy => ht y (by rw [List.take_succ_cons]; exact List.mem_cons_of_mem _ hy)
theorem stops (p : Ro → Bool) : ∀ (l : List Ro) (z : Ro), (l.drop (l.takeWhile p).length).head? = some z → p z = false
  | [], z, h => by simp at h
  | x :: r, z, h => by
    by_cases hp : p x = true
    · rw [List.takeWhile_cons_of_pos hp, List.length_cons, List.drop_succ_cons] at h
      exact stops p r z h
    · rw [List.takeWhile_cons_of_neg hp] at h
      obtain rfl : x = z := by simpa using h
      simpa using hp
theorem takes (p : Ro → Bool) : ∀ (l : List Ro), ∀ x ∈ l.take (l.takeWhile p).length, p x = true
  | [], x, h => by simp at h
  | y :: r, x, h => by
    by_cases hp : p y = true
    · rw [List.takeWhile_cons_of_pos hp, List.length_cons, List.take_succ_cons] at h
      rcases List.mem_cons.1 h with rfl | h
      · exact hp
      · exact takes p r x h
    · rw [List.takeWhile_cons_of_neg hp] at h
      simp at h
theorem right_ok : ∀ (l : List Ro) (m : Int), rightFrom m l = true → ∀ x ∈ l, okRow x = true
  | [], _, _, x, h => by cases h
  | y :: r, m, h, x, hx => by
    rw [rightFrom] at h
    simp only [Bool.and_eq_true, decide_eq_true_eq] at h
    rcases List.mem_cons.1 hx with rfl | hx
    · exact h.1.2
    · exact right_ok r _ h.2 x hx

theorem normal_fold : ∀ (n : Nat) (l acc : List Ro) (m : Int), l.length ≤ n → rightFrom m l = true → (∀ y, acc.getLast? = some y → y.kind = 1 → ∀ x, l.head? = some x → x.kind = 1 → x.depth < y.depth) → l.foldl stepN acc = acc ++ normal l
  | _, [], acc, m, _, _, _ => by rw [List.foldl_nil, normal, List.append_nil]
  | 0, _ :: _, _, _, hn, _, _ => absurd hn (by simp)
  | n + 1, x :: r, acc, m, hn, hr, ha => by
    rw [List.length_cons] at hn
    have hok := right_ok _ _ hr
    rw [rightFrom] at hr
    simp only [Bool.and_eq_true, decide_eq_true_eq] at hr
    have h2 := hr.2
    rw [normal]
    by_cases hk : x.kind = 1
    · rw [if_pos hk]
      rw [if_neg (by rw [hk]; decide)] at h2
      obtain ⟨k, hkk⟩ : ∃ k, nexts x.depth r = k := ⟨_, rfl⟩
      rw [hkk]
      have htk : ∀ y ∈ r.take k, y.kind = 1 ∧ y.depth = x.depth := fun y hy => by
        rw [← hkk] at hy
        have := takes _ r y hy
        simpa using this
      have hst : ∀ z, (r.drop k).head? = some z → z.kind = 1 → z.depth ≠ x.depth := fun z hz e1 e2 => by
        rw [← hkk] at hz
        have := stops _ r z hz
        simp [e1, e2] at this
      have hrd := right_same x.depth k r h2 htk
      have hg : ∀ y ∈ x :: r.take k, y = ⟨x.depth, 1, .empty, y.data, []⟩ := fun y hy => by
        rcases List.mem_cons.1 hy with rfl | hy
        · exact text_form (hok _ List.mem_cons_self) hk
        · have e := text_form (hok y (List.mem_cons_of_mem _ (List.mem_of_mem_take hy))) (htk y hy).1
          rwa [(htk y hy).2] at e
      have hnt : NoTx x.depth acc := fun y hy e => by
        have := ha y hy e.1 x rfl hk
        omega
      have hz : ∀ z, (r.drop k).head? = some z → z.kind = 1 → z.depth < x.depth := fun z hz e => by
        have h1 := hst z hz e
        have h3 : z.depth ≤ x.depth := by
          cases hdk : r.drop k with
          | nil => rw [hdk] at hz; simp at hz
          | cons a t =>
            rw [hdk] at hz hrd
            obtain rfl : a = z := by simpa using hz
            rw [rightFrom] at hrd
            simp only [Bool.and_eq_true, decide_eq_true_eq] at hrd
            exact hrd.1.1.2
        omega
      have hsplit : x :: r = (x :: r.take k) ++ r.drop k := by rw [List.cons_append, List.take_append_drop]
      rw [hsplit, List.foldl_append, group_new x.depth _ acc hg hnt]
      rw [normal_fold n (r.drop k) _ x.depth (by rw [List.length_drop]; omega) hrd, List.append_assoc]
      · rfl
      · intro y hy hyk z hz2 hzk
        have h3 := hz z hz2 hzk
        by_cases ht : txt (x :: r.take k) = []
        · rw [joinedTx, if_pos ht, List.append_nil] at hy
          have := ha y hy hyk x rfl hk
          omega
        · rw [joinedTx, if_neg ht, List.getLast?_concat] at hy
          obtain rfl := Option.some.inj hy
          exact h3
    · rw [if_neg hk, List.foldl_cons]
      have hstep : stepN acc x = acc ++ [x] := by
        rw [stepN, if_neg fun e => hk e.1]
        cases hl : acc.getLast? with
        | none => rfl
        | some y =>
          show (if x.kind = 1 ∧ y.kind = 1 ∧ y.depth = x.depth then _ else acc ++ [x]) = _
          rw [if_neg fun e => hk e.1]
      rw [hstep, normal_fold n r _ _ (by omega) h2, List.append_assoc]
      · rfl
      · intro y hy hyk
        rw [List.getLast?_concat] at hy
        obtain rfl := Option.some.inj hy
        exact absurd hyk hk

/-- The two ways to join texts are the same. -/
theorem normal_ref {l : List Ro} (h : right l = true) : refNormal l = normal l := by
  rw [refNormal, normal_fold l.length l [] 0 (Nat.le_refl _) h (fun y hy => by simp at hy)]
  rfl

theorem exceeds_iff (l : List Ro) (n d : Int) : exceeds l n d = true ↔ n < l.length ∨ ∃ x ∈ l, d ≤ x.depth := by
  rw [exceeds, Bool.or_eq_true, decide_eq_true_eq, List.any_eq_true]
  simp only [decide_eq_true_eq]
end Go.Proofs.Ytgjlfcamgkeibaa.Ro

namespace Go.Proofs.Ytgjlfcamgkeibaa.Ro
set_option maxRecDepth 100000
set_option linter.unusedVariables false
set_option linter.unusedSimpArgs false
open Go.RowKit Ba Go.ChangeShapes Go.WideShapes Go.Deep
section
variable {H : Type} {enc : TypeId × Value → H} {P : Program} {w : World} {base : Nat} {spare : Nat → Bool} {held : Bool}
/-- A slice of structs of one-cell fields: its parts. -/
theorem open_rows_of {t e : TypeId} {fs : Array Field} {fuel : Nat} {cs : List Value} {x : DataW H × List MemPlace} (ht : P.underlying t = some (.slice e)) (he : P.underlying e = some (.struct fs))
    (hone : oneCellFields P fs = true) (hC : P.cellsOf e = fs.size) (h : DataW.trod enc P w base spare held fuel t cs = some x) :
    cs = [.slice none 0 0] ∨
    ∃ (a : Addr) (len cap m : Nat) (Pl : Nat → List MemPlace), cs = [.slice (some a) len cap] ∧ len ≤ cap ∧ cap ≤ maxLen ∧ m = (if spare a.block then cap else len) ∧
      x.2 = MemPlace.row a (m * fs.size) ++ (List.range m).flatMap Pl ∧
      ∀ i, i < m → ∀ (j : Nat) (f : Field), fs[j]? = some f → ∃ (v : Value) (y : DataW H × List MemPlace) (n : Nat), w.cell? (a.add (i * fs.size + j)) = some v ∧ (∀ z ∈ y.2, z ∈ Pl i) ∧ DataW.trod enc P w base spare held n f.type [v] = some y := by
  rcases open_slice ht h with ⟨h0, _⟩ | ⟨a, len, cap, m, n, D, Pl, hcs, hb, hl, hm, hmm, hx, hi⟩
  · exact .inl h0
  · refine .inr ⟨a, len, cap, m, Pl, hcs, hl, hm, hmm, by rw [hx, hC], fun i him j f hj => ?_⟩
    obtain ⟨cs', hc, ht'⟩ := hi i him
    rw [hC] at hc
    obtain ⟨ys, n', hn', hy, hlen, hyl, hf⟩ := DataW.trod_struct he ht'
    obtain ⟨_, hcl, hat⟩ := World.cells?_some hc
    simp only [Prod.mk.injEq] at hy
    obtain ⟨ho, hk⟩ := hone_of hone j f hj
    have hjl : j < fs.size := (Array.getElem?_eq_some_iff.1 hj).1
    have hcell := hat j hjl
    have hv : cs'[j]? = some (cs'[j]'(by omega)) := List.getElem?_eq_getElem (by omega)
    have h1 := hf j f hj
    rw [ho, hk] at h1
    have hone' : (cs'.drop j).take 1 = [cs'[j]'(by omega)] := by
      rw [List.drop_eq_getElem_cons (by omega)]
      rfl
    rw [hone'] at h1
    have hys : ys[j]? = some (ys[j]'(by omega)) := List.getElem?_eq_getElem (by omega)
    refine ⟨_, _, n', ?_, fun z hz => ?_, h1.trans hys⟩
    · rw [← Go.Deep.add_add, hcell, hv]
    · rw [hy.2]
      exact List.mem_flatMap.2 ⟨_, List.getElem_mem _, hz⟩
end

theorem list_of {α : Type} (Q : Nat → α → Prop) : ∀ n : Nat, (∀ i < n, ∃ x, Q i x) → ∃ l : List α, l.length = n ∧ ∀ i (h : i < l.length), Q i l[i]
  | 0, _ => ⟨[], rfl, fun i h => absurd h (by simp)⟩
  | n + 1, h => by
    obtain ⟨l, hl, hq⟩ := list_of Q n fun i hi => h i (by omega)
    obtain ⟨x, hx⟩ := h n (by omega)
    refine ⟨l ++ [x], by rw [List.length_append, hl]; rfl, fun i hi => ?_⟩
    rw [List.length_append, List.length_singleton] at hi
    by_cases e : i < l.length
    · rw [List.getElem_append_left e]
      exact hq i e
    · have : i = l.length := by omega
      subst this
      rw [List.getElem_append_right (Nat.le_refl _)]
      simp only [Nat.sub_self, List.getElem_cons_zero]
      rw [hl]; exact hx

section
variable {H : Type} {enc : TypeId × Value → H} {w : World} {base : Nat}
theorem open_attrs {fuel : Nat} {v : Value} {x : DataW H × List MemPlace} (h : DataW.trod enc Try.prog w base (fun _ => true) true fuel 34 [v] = some x) (N : Nat) (hlt : ∀ z ∈ x.2, z.block < N) :
    ∃ A c l, v = .slice A l.length c ∧ l.length ≤ c ∧ (A = none → c = 0) ∧ c ≤ maxLen ∧ Ra w N A l ∧ Sh l := by
  rcases open_rows_of Try.underlying34 Try.underlying40 (by kernel_rfl) (by kernel_rfl) h with hcs | ⟨a, len, cap, m, Pl, hcs, hl, hm, hmm, hx, hi⟩
  · obtain rfl : v = .slice none 0 0 := by simpa using hcs
    exact ⟨none, 0, [], rfl, Nat.le_refl _, fun _ => rfl, Nat.zero_le _, fun h => absurd h (by simp), fun _ h => by simp at h⟩
  · obtain rfl : v = .slice (some a) len cap := by simpa using hcs
    simp only [if_true] at hmm
    subst hmm
    obtain ⟨b, off, spot⟩ := a
    have hrow : ∀ i < len, ∃ t : At, w.cell? ((⟨b, off, spot⟩ : Addr).add (i * 2)) = some (.string t.name) ∧ w.cell? ((⟨b, off, spot⟩ : Addr).add (i * 2 + 1)) = some (.string t.value) ∧ t.name.size ≤ maxLen := fun i hil => by
      obtain ⟨v0, y0, n0, hc0, _, ht0⟩ := hi i (by omega) 0 _ rfl
      obtain ⟨v1, y1, n1, hc1, _, ht1⟩ := hi i (by omega) 1 _ rfl
      obtain ⟨s0, e0, _, hs0⟩ := DataW.trod_string Try.underlying9 ht0
      obtain ⟨s1, e1, _, _⟩ := DataW.trod_string Try.underlying9 ht1
      obtain rfl : v0 = .string s0 := by simpa using e0
      obtain rfl : v1 = .string s1 := by simpa using e1
      exact ⟨⟨s0, s1⟩, hc0, hc1, hs0⟩
    obtain ⟨l, hll, hq⟩ := list_of _ len hrow
    refine ⟨some ⟨b, off, spot⟩, m, l, by rw [hll], by omega, (fun e => by cases e), hm, fun h0 => ?_, fun t ht => ?_⟩
    · have hspot : spot = none := by
        have := World.cell?_spot (hq 0 h0).1
        simpa [Addr.add] using this
      subst hspot
      refine ⟨b, off, rfl, hlt (.cell b off) (by rw [hx]; exact List.mem_append_left _ (MemPlace.mem_row.2 ⟨0, by show 0 < m * 2; omega, by simp⟩)), fun j hj => ?_⟩
      obtain ⟨h1, h2, _⟩ := hq j hj
      rw [add_plain] at h1 h2
      intro k u hu
      match k, hu with
      | 0, hu => exact h1.trans hu
      | 1, hu => exact (show w.cell? ⟨b, off + j * 2 + 1, none⟩ = _ from h2).trans hu
      | k + 2, hu => exact absurd hu (by simp [acells])
    · obtain ⟨j, hj, rfl⟩ := List.getElem_of_mem ht
      exact (hq j hj).2.2
theorem int_range {n : Int} (h : (Lit.int .i64 n).wf = true) : -9223372036854775808 ≤ n ∧ n ≤ 9223372036854775807 := by
  have h1 : IntKind.i64.min = -9223372036854775808 := by decide
  have h2 : IntKind.i64.max = 9223372036854775807 := by decide
  simp [Lit.wf, h1, h2] at h
  omega
end

section
variable {H : Type} {enc : TypeId × Value → H} {P : Program} {w : World} {base : Nat} {spare : Nat → Bool} {held : Bool}
theorem open_rows_parts {t e : TypeId} {fs : Array Field} {fuel : Nat} {cs : List Value} {x : DataW H × List MemPlace} (ht : P.underlying t = some (.slice e)) (he : P.underlying e = some (.struct fs))
    (hone : oneCellFields P fs = true) (hC : P.cellsOf e = fs.size) (h : DataW.trod enc P w base spare held fuel t cs = some x) :
    cs = [.slice none 0 0] ∨
    ∃ (a : Addr) (len cap : Nat) (D : Nat → DataW H) (sp : List (DataW H)), cs = [.slice (some a) len cap] ∧ x.1 = .slice ((List.range len).map D) sp ∧
      ∀ i, i < len → ∀ (j : Nat) (f : Field), fs[j]? = some f → ∃ (v : Value) (y : DataW H × List MemPlace) (n : Nat) (parts : List (DataW H)), w.cell? (a.add (i * fs.size + j)) = some v ∧ D i = .agg parts ∧ parts[j]? = some y.1 ∧ DataW.trod enc P w base spare held n f.type [v] = some y := by
  rcases open_slice ht h with ⟨h0, _⟩ | ⟨a, len, cap, m, n, D, Pl, hcs, hb, hl, hm, hmm, hx, hi⟩
  · exact .inl h0
  · refine .inr ⟨a, len, cap, D, _, hcs, by rw [hx], fun i hil j f hj => ?_⟩
    have him : i < m := by rw [hmm]; split <;> omega
    obtain ⟨cs', hc, ht'⟩ := hi i him
    rw [hC] at hc
    obtain ⟨ys, n', hn', hy, hlen, hyl, hf⟩ := DataW.trod_struct he ht'
    obtain ⟨_, hcl, hat⟩ := World.cells?_some hc
    simp only [Prod.mk.injEq] at hy
    obtain ⟨ho, hk⟩ := hone_of hone j f hj
    have hjl : j < fs.size := (Array.getElem?_eq_some_iff.1 hj).1
    have hcell := hat j hjl
    have hv : cs'[j]? = some (cs'[j]'(by omega)) := List.getElem?_eq_getElem (by omega)
    have h1 := hf j f hj
    rw [ho, hk] at h1
    have hone' : (cs'.drop j).take 1 = [cs'[j]'(by omega)] := by
      rw [List.drop_eq_getElem_cons (by omega)]
      rfl
    rw [hone'] at h1
    have hys : ys[j]? = some (ys[j]'(by omega)) := List.getElem?_eq_getElem (by omega)
    refine ⟨_, _, n', _, ?_, hy.1, by rw [List.getElem?_map, hys]; rfl, h1.trans hys⟩
    rw [← Go.Deep.add_add, hcell, hv]
end

section
variable {H : Type} {enc : TypeId × Value → H} {P : Program} {w : World} {base : Nat} {spare : Nat → Bool} {held : Bool}
/-- A struct of one-cell fields: its parts. -/
theorem open_agg_any {r : Reach} {b0 : Nat} {t : TypeId} {fs : Array Field} {v : Value} {d : DataW H} {p : List MemPlace} (hs : P.underlying t = some (.struct fs)) (hone : oneCellFields P fs = true) (hC : P.cellsOf t = fs.size)
    (hv : Value.okWide P w r b0 t v) (h : DataW.Trod enc P w base spare held t v d p) :
    ∃ (cs : Array Value) (ys : List (DataW H × List MemPlace)) (n : Nat), v = .agg cs ∧ cs.size = fs.size ∧ d = .agg (ys.map (·.1)) ∧ p = ys.flatMap (·.2) ∧
      ∀ (j : Nat) (f : Field), fs[j]? = some f → ∃ (u : Value) (y : DataW H × List MemPlace), cs[j]? = some u ∧ ys[j]? = some y ∧ DataW.trod enc P w base spare held n f.type [u] = some y := by
  obtain ⟨cs, rfl, hsz⟩ := okWide_struct hs hv
  obtain ⟨fuel, hf⟩ := h
  obtain ⟨ys, n', hn', hy, hlen, hyl, hat⟩ := DataW.trod_struct hs hf
  simp only [Prod.mk.injEq] at hy
  refine ⟨cs, ys, n', rfl, hsz.trans hC, hy.1, hy.2, fun j f hj => ?_⟩
  obtain ⟨ho, hk⟩ := hone_of hone j f hj
  have hjl : j < fs.size := (Array.getElem?_eq_some_iff.1 hj).1
  have hjc : j < cs.size := by rw [hsz, hC]; exact hjl
  have h1 := hat j f hj
  rw [ho, hk] at h1
  have hcl : ((Value.agg cs).cells.toList) = cs.toList := rfl
  have hone' : (((Value.agg cs).cells.toList).drop j).take 1 = [cs[j]] := by
    rw [hcl, List.drop_eq_getElem_cons (by rw [Array.length_toList]; exact hjc)]
    simp
  rw [hone'] at h1
  have hys : ys[j]? = some (ys[j]'(by omega)) := List.getElem?_eq_getElem (by omega)
  exact ⟨cs[j], _, Array.getElem?_eq_getElem hjc, hys, h1.trans hys⟩
end

theorem mem_bulk {H : Type} {d : DataW H} : ∀ {ds : List (DataW H)}, d ∈ ds → Rows.uptoBulk d ≤ Rows.uptoBulkAll ds
  | [], h => by cases h
  | e :: r, h => by
    rw [Rows.uptoBulkAll]
    rcases List.mem_cons.1 h with rfl | h
    · omega
    · have := mem_bulk h
      omega
section
variable {H : Type} {enc : TypeId × Value → H} {w : World}
end

end Go.Proofs.Ytgjlfcamgkeibaa.Ro
