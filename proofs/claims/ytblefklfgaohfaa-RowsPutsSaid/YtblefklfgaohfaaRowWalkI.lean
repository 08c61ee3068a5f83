/-
  Walks of stage 4: boltingref04.Moved, Join; rows.appendMoved; boltinglaw04.bound.
-/
import Derived.Test.YtblefklfgaohfaaRowOwn
import Derived.Test.YtblefklfgaohfaaRowWalkE
namespace Go.Proofs.Ytblefklfgaohfaa.Ro
set_option linter.unusedVariables false
set_option linter.unusedSimpArgs false
open Go.RowKit Ba

/-- Rows so much deeper. -/
def deeper (by_ : Int) (l : List Ro) : List Ro := l.map fun x => { x with depth := x.depth + by_ }
theorem deeper_snoc (d : Int) (l : List Ro) (x : Ro) : deeper d (l ++ [x]) = deeper d l ++ [{ x with depth := x.depth + d }] := by simp [deeper]
/-- No row has more attributes than that. -/
def Few (l : List Ro) : Prop := ∀ x ∈ l, x.attrs.length ≤ 1000000
theorem Few.at_ {l : List Cw} (h : Few (ros l)) {x : Cw} (hx : x ∈ l) : x.ro.attrs.length ≤ 1000000 := h _ (List.mem_map.2 ⟨x, hx, rfl⟩)
/-- So much deeper they do not wrap. -/
def Fits (by_ : Int) (l : List Ro) : Prop := ∀ x ∈ l, -9223372036854775808 ≤ x.depth + by_ ∧ x.depth + by_ ≤ 9223372036854775807
theorem Fits.at_ {d : Int} {l : List Cw} (h : Fits d (ros l)) {x : Cw} (hx : x ∈ l) : -9223372036854775808 ≤ x.ro.depth + d ∧ x.ro.depth + d ≤ 9223372036854775807 := h _ (List.mem_map.2 ⟨x, hx, rfl⟩)

theorem Fr.mono {N N' : Nat} {w : World} {x : Cw} (h : Fr N w x) (hN : N' ≤ N) : Fr N' w x := ⟨World.ownsRow.mono h.1 hN, h.2⟩
theorem Fr.set {N : Nat} {w : World} {x : Cw} {p : Addr} {u : Value} (h : Fr N w x) (hp : p.block < N) : Fr N (w.setCell p u) x := by
  refine ⟨⟨h.1.1, ?_⟩, h.2⟩
  rcases h.1.2 with hn | ⟨g, cap, cur, hv, hg, hh, rest⟩
  · exact .inl hn
  · exact .inr ⟨g, cap, cur, hv, hg, (Below.heap_setCell w p u g (by omega)).trans hh, rest⟩
/-- A box that is kept. -/
theorem box_block {w w2 : World} {x : Cw} (hb : Below (w.heap.size + 1) (w.alloc (rowO x)) w2) :
    w2.cell? ⟨w.heap.size, 0, none⟩ = some (.int .i64 x.ro.depth) ∧ w2.cell? ⟨w.heap.size, 1, none⟩ = some (.int .i64 x.ro.kind) ∧ w2.cell? ⟨w.heap.size, 2, none⟩ = some (.string x.ro.name) ∧ w2.cell? ⟨w.heap.size, 3, none⟩ = some (.string x.ro.data) ∧ w2.cell? ⟨w.heap.size, 4, none⟩ = some (.slice x.A x.ro.attrs.length x.c) ∧ w2.frozen? ⟨w.heap.size, 4, none⟩ = false ∧ Below w.heap.size w w2 := by
  have hc : ∀ j, w2.cell? ⟨w.heap.size, j, none⟩ = (cells x)[j]? := fun j => (hb.cell (p := ⟨w.heap.size, j, none⟩) (by simp)).trans (box_at w x j)
  refine ⟨hc 0, hc 1, hc 2, hc 3, hc 4, ?_, (below_new w _).trans (hb.mono (by omega))⟩
  rw [hb.frozen (p := ⟨w.heap.size, 4, none⟩) (by simp)]
  unfold World.frozen?
  rw [heap_alloc_new]
  rfl
abbrev deep1 (d : Int) (x : Cw) : Cw := ⟨⟨x.ro.depth + d, x.ro.kind, x.ro.name, x.ro.data, x.ro.attrs⟩, x.A, x.c⟩
abbrev deep2 (d : Int) (x : Cw) (A : Option Addr) (c : Nat) : Cw := ⟨⟨x.ro.depth + d, x.ro.kind, x.ro.name, x.ro.data, x.ro.attrs⟩, A, c⟩
theorem own_attr0 (w : World) (o : Obj) : ((w.alloc o).alloc (.cells #[] 46)).ownsRow (w.heap.size + 1) 46 2 (.slice (some ⟨w.heap.size + 1, 0, none⟩) 0 0) 0 [] := by
  have h : (w.alloc o).heap.size = w.heap.size + 1 := by simp
  have := World.ownsRow_made (base := (w.alloc o).heap.size) (e := 46) (size := 2) (w.alloc o) #[] 0 (Nat.le_refl _) (Nat.zero_le _) rfl
  rwa [h] at this
theorem after_attrs {w w2 : World} {o o2 : Obj} (hg : ((w.alloc o).alloc o2).grownBy w2 (some (w.heap.size + 1))) : Below (w.heap.size + 1) (w.alloc o) w2 := by
  have h := below_new (w.alloc o) o2
  have e : (w.alloc o).heap.size = w.heap.size + 1 := by simp
  rw [e] at h
  exact h.grown hg (by simp) fun k hk => by injection hk with hk; omega
/-- What a copied row is, in the world where its attributes have been stored into its box. -/
theorem copied {N : Nat} {w w2 : World} {d : Int} {x : Cw} {A : Option Addr} {c : Nat} {v : Value} {acc : List Cw} (hN : N ≤ w.heap.size) (hb : Below w.heap.size w w2) (hf : Fr (w.heap.size + 1) w2 (deep2 d x A c)) (hown : Ow N w v acc) (hfr : ∀ x ∈ acc, Fr N w x) (u : Value) :
    Ow N (w2.setCell ⟨w.heap.size, 4, none⟩ u) v acc ∧ (∀ x ∈ acc, Fr N (w2.setCell ⟨w.heap.size, 4, none⟩ u) x) ∧ Att (w2.setCell ⟨w.heap.size, 4, none⟩ u) (w2.setCell ⟨w.heap.size, 4, none⟩ u).heap.size (deep2 d x A c) ∧ Ap (w2.setCell ⟨w.heap.size, 4, none⟩ u) N (deep2 d x A c) ∧ Fr N (w2.setCell ⟨w.heap.size, 4, none⟩ u) (deep2 d x A c) ∧ N ≤ (w2.setCell ⟨w.heap.size, 4, none⟩ u).heap.size ∧ Below w.heap.size w (w2.setCell ⟨w.heap.size, 4, none⟩ u) := by
  have hb' : Below w.heap.size w (w2.setCell ⟨w.heap.size, 4, none⟩ u) := hb.setCell (Nat.le_refl _) _
  have hf' := (hf.set (p := ⟨w.heap.size, 4, none⟩) (u := u) (Nat.lt_succ_self _)).mono (N' := N) (by omega)
  exact ⟨hown.below hb', fun x hx => (hfr x hx).below hb', hf'.att, hf'.ap, hf', Nat.le_trans hN hb'.size, hb'⟩

set_option maxRecDepth 100000 in
set_option maxHeartbeats 1000000 in
theorem Moved_any (A : Option Addr) (c : Nat) (l : List Cw) (d : Int) (w : World) (hr : Rr w w.heap.size A l) (hc : l.length ≤ c) (hm : l.length ≤ 1000000) (hf : Few (ros l)) (hd : Fits d (ros l)) :
    Calls Try.prog 17 #[.slice A l.length c, .int .i64 d] w fun e w' => ∃ v l', e = .returned v ∧ Ow w.heap.size w' v l' ∧ (∀ x ∈ l', Fr w.heap.size w' x) ∧ ros l' = deeper d (ros l) ∧ Below w.heap.size w w' := by
  go_enter Try.func17, Try.ntmps17
  go_wp2
  go_loopw [5, 6] (fun v i wr => ∃ (k : Nat) (acc : List Cw), i = .int .i64 k ∧ k ≤ l.length ∧ acc.length = k ∧ Ow w.heap.size wr v acc ∧ (∀ x ∈ acc, Fr w.heap.size wr x) ∧ ros acc = deeper d (ros (l.take k)) ∧ Below w.heap.size w wr) (fun _ i _ => l.length - (intOf i).toNat)
  case atStart => exact ⟨0, [], rfl, by omega, rfl, Ow.made w, fun _ h => by simp at h, rfl, below_new w _⟩
  case round =>
    obtain ⟨k, acc, rfl, hk, hal, hown, hfr, hros, hbel⟩ := hrel
    have hsz := hbel.size
    by_cases hp : k < l.length
    · obtain ⟨b, off, x, rfl, hb, hdx, hx, hxa, hxm⟩ := (hr.below hbel).at_ k hp
      have hfew : x.ro.attrs.length ≤ 2000000 := Nat.le_trans (hf.at_ hxm) (by decide)
      obtain ⟨hw1, hw2⟩ := hd.at_ hxm
      have hs : ros acc ++ [{ x.ro with depth := x.ro.depth + d }] = deeper d (ros (l.take (k + 1))) := by
        rw [hros, List.take_add_one, getElem_of_drop hdx, ros_append, ← deeper_snoc]
        rfl
      have HS := Lib.hid hs
      have HOW := Lib.hid hown; have HFR := Lib.hid hfr
      have HAT : Hid (Att ((wr.alloc (rowO (deep1 d x))).alloc (.cells #[] 46)) ((wr.alloc (rowO (deep1 d x))).alloc (.cells #[] 46)).heap.size (deep1 d x)) := Lib.hid (((show Att wr w.heap.size (deep1 d x) from hxa).boxed hbel (rowO (deep1 d x))).boxed (Below.refl _ _) (.cells #[] 46))
      have hacc : acc.length ≤ 2000000 := by omega
      have HAL := Lib.hid hal
      clear hros hdx hs hown hfr hxa hal
      go_wp2_with (first
        | (refine wpList_load_mid rfl 43 (.tmp 17) rfl b (off + k * 5) rfl _ _ hx Try.underlying43 rfl size_row ?_)
        | (at_builtin; refine app_attrs _ rfl (.tmp 24) (.tmp 26) rfl (wr.heap.size + 1) (.slice (some ⟨wr.heap.size + 1, 0, none⟩) 0 0) (deep1 d x) rfl (own_attr0 wr _) rfl HAT.out hfew (by simp) ?_; intro A' c' w2 hf2 hg2
           obtain ⟨q0, q1, q2, q3, q4, q5, hb2⟩ := box_block (after_attrs (w := wr) (o := rowO (deep1 d x)) (o2 := .cells #[] 46) hg2)
           have HF2 := Lib.hid hf2; have HB2 := Lib.hid hb2
           clear hf2 hb2 hg2)
        | (at_builtin; refine app_row _ rfl (.tmp 29) (.tmp 31) rfl w.heap.size _ acc (deep2 d x A' c') rfl (copied hsz HB2.out HF2.out HOW.out HFR.out _).1 (copied hsz HB2.out HF2.out HOW.out HFR.out _).2.2.1 (copied hsz HB2.out HF2.out HOW.out HFR.out _).2.2.2.1 w2.heap.size (by simp) rfl hacc (copied hsz HB2.out HF2.out HOW.out HFR.out _).2.2.2.2.2.1 ?_; intro v3 w3 ho3 hk3 hf3))
      go_roundw
      case rel =>
        have C := copied hsz HB2.out HF2.out HOW.out HFR.out (.slice A' x.ro.attrs.length c')
        exact ⟨k + 1, acc ++ [deep2 d x A' c'], by go_num, by omega, by rw [List.length_append, HAL.out]; rfl, ho3, fun z hz => (by
          rcases List.mem_append.1 hz with h | h
          · exact hf3 z (C.2.1 z h)
          · obtain rfl := List.mem_singleton.1 h
            exact hf3 _ C.2.2.2.2.1), by rw [ros_append]; exact HS.out, hk3 w (hbel.trans (C.2.2.2.2.2.2.mono hsz))⟩
      case measure => simp [intOf]; omega
    · rw [List.take_of_length_le (by omega)] at hros
      have HR := Lib.hid hros
      clear hros
      go_wp2
      go_ret
      exact ⟨_, acc, rfl, hown, hfr, HR.out, hbel⟩

theorem after_attrs0 {w w2 : World} {o : Obj} (hg : (w.alloc o).grownBy w2 none) : Below (w.heap.size + 1) (w.alloc o) w2 := by
  have h := Below.refl (w.alloc o).heap.size (w.alloc o)
  have e : (w.alloc o).heap.size = w.heap.size + 1 := by simp
  rw [e] at h
  exact h.grown hg (by simp) fun k hk => by cases hk
theorem Att.boxN {w : World} {N : Nat} {x : Cw} (h : Att w N x) (hN : N ≤ w.heap.size) (o : Obj) : Att (w.alloc o) (w.alloc o).heap.size x := ((h.more hN).below (below_new w o)).more (by simp)

set_option maxRecDepth 100000 in
set_option maxHeartbeats 1000000 in
theorem appendMoved_any (N : Nat) (v0 : Value) (acc0 : List Cw) (A : Option Addr) (c : Nat) (l : List Cw) (d : Int) (w : World) (hN : N ≤ w.heap.size) (hown0 : Ow N w v0 acc0) (hfr0 : ∀ x ∈ acc0, Fr N w x) (hacc0 : acc0.length ≤ 1000000) (hr : Rr w N A l) (hc : l.length ≤ c) (hm : l.length ≤ 1000000) (hf : Few (ros l)) (hd : Fits d (ros l)) :
    Calls Try.prog 48 #[v0, .slice A l.length c, .int .i64 d] w fun e w' => ∃ v l', e = .returned v ∧ Ow N w' v l' ∧ (∀ x ∈ l', Fr N w' x) ∧ ros l' = ros acc0 ++ deeper d (ros l) ∧ Below N w w' := by
  go_enter Try.func48, Try.ntmps48
  go_wp2
  go_loopw [0, 11] (fun v i wr => ∃ (k : Nat) (acc : List Cw), i = .int .i64 k ∧ k ≤ l.length ∧ acc.length = acc0.length + k ∧ Ow N wr v acc ∧ (∀ x ∈ acc, Fr N wr x) ∧ ros acc = ros acc0 ++ deeper d (ros (l.take k)) ∧ Below N w wr) (fun _ i _ => l.length - (intOf i).toNat)
  case atStart => exact ⟨0, acc0, rfl, by omega, rfl, hown0, hfr0, by rw [List.take_zero]; exact (List.append_nil _).symm, Below.refl _ _⟩
  case round =>
    clear hown0 hfr0
    obtain ⟨k, acc, rfl, hk, hal, hown, hfr, hros, hbel⟩ := hrel
    have hsz : N ≤ wr.heap.size := Nat.le_trans hN hbel.size
    by_cases hp : k < l.length
    · obtain ⟨b, off, x, rfl, hb, hdx, hx, hxa, hxm⟩ := (hr.below hbel).at_ k hp
      have hfew : x.ro.attrs.length ≤ 2000000 := Nat.le_trans (hf.at_ hxm) (by decide)
      obtain ⟨hw1, hw2⟩ := hd.at_ hxm
      have hs : ros acc ++ [{ x.ro with depth := x.ro.depth + d }] = ros acc0 ++ deeper d (ros (l.take (k + 1))) := by
        rw [hros, List.take_add_one, getElem_of_drop hdx, ros_append, List.append_assoc, ← deeper_snoc]
        rfl
      have HS := Lib.hid hs
      have HOW := Lib.hid hown; have HFR := Lib.hid hfr
      have HAT : Hid (Att (wr.alloc (rowO (deep1 d x))) (wr.alloc (rowO (deep1 d x))).heap.size (deep1 d x)) := Lib.hid ((show Att wr N (deep1 d x) from hxa).boxN hsz (rowO (deep1 d x)))
      have hacc : acc.length ≤ 2000000 := by omega
      have HAL := Lib.hid hal
      clear hros hdx hs hown hfr hxa hal
      go_wp2_with (first
        | (refine wpList_load_mid rfl 43 (.tmp 13) rfl b (off + k * 5) rfl _ _ hx Try.underlying43 rfl size_row ?_)
        | (at_builtin; refine app_attrs _ rfl (.const (.slice none 0 0)) (.tmp 21) rfl (wr.heap.size + 1) (.slice none 0 0) (deep1 d x) rfl (World.ownsRow_nil _ _ _ _) rfl HAT.out hfew (by simp) ?_; intro A' c' w2 hf2 hg2
           obtain ⟨q0, q1, q2, q3, q4, q5, hb2⟩ := box_block (after_attrs0 (w := wr) (o := rowO (deep1 d x)) hg2)
           have HF2 := Lib.hid hf2; have HB2 := Lib.hid hb2
           clear hf2 hb2 hg2)
        | (at_builtin; refine app_row _ rfl (.tmp 24) (.tmp 26) rfl N _ acc (deep2 d x A' c') rfl (copied hsz HB2.out HF2.out HOW.out HFR.out _).1 (copied hsz HB2.out HF2.out HOW.out HFR.out _).2.2.1 (copied hsz HB2.out HF2.out HOW.out HFR.out _).2.2.2.1 w2.heap.size (by simp) rfl hacc (copied hsz HB2.out HF2.out HOW.out HFR.out _).2.2.2.2.2.1 ?_; intro v3 w3 ho3 hk3 hf3))
      go_roundw
      case rel =>
        have C := copied hsz HB2.out HF2.out HOW.out HFR.out (.slice A' x.ro.attrs.length c')
        exact ⟨k + 1, acc ++ [deep2 d x A' c'], by go_num, by omega, by rw [List.length_append, HAL.out]; rfl, ho3, fun z hz => (by
          rcases List.mem_append.1 hz with h | h
          · exact hf3 z (C.2.1 z h)
          · obtain rfl := List.mem_singleton.1 h
            exact hf3 _ C.2.2.2.2.1), by rw [ros_append]; exact HS.out, hk3 w (hbel.trans (C.2.2.2.2.2.2.mono hsz))⟩
      case measure => simp [intOf]; omega
    · rw [List.take_of_length_le (by omega)] at hros
      have HR := Lib.hid hros
      clear hros
      go_wp2
      go_ret
      exact ⟨_, acc, rfl, hown, hfr, HR.out, hbel⟩

theorem Few.append {a b : List Ro} (ha : Few a) (hb : Few b) : Few (a ++ b) := fun x hx => (List.mem_append.1 hx).elim (ha x) (hb x)
theorem Few.deeper {a : List Ro} (ha : Few a) (d : Int) : Few (deeper d a) := fun x hx => by
  obtain ⟨y, hy, rfl⟩ := List.mem_map.1 hx
  exact ha y hy
theorem deeper_zero (l : List Ro) : deeper 0 l = l := by
  unfold deeper
  rw [List.map_congr_left (g := id) fun x _ => by simp]
  exact List.map_id l
theorem len_deeper (d : Int) (l : List Ro) : (deeper d l).length = l.length := List.length_map _
/-- Depths that an int64 holds. -/
def Held (l : List Ro) : Prop := ∀ x ∈ l, -9223372036854775808 ≤ x.depth ∧ x.depth ≤ 9223372036854775807
theorem Held.fits {l : List Ro} (h : Held l) : Fits 0 l := fun x hx => by have := h x hx; omega
theorem Held.append {a b : List Ro} (ha : Held a) (hb : Held b) : Held (a ++ b) := fun x hx => (List.mem_append.1 hx).elim (ha x) (hb x)
theorem Fits.held {d : Int} {l : List Ro} (h : Fits d l) : Held (deeper d l) := fun x hx => by
  obtain ⟨y, hy, rfl⟩ := List.mem_map.1 hx
  exact h y hy
theorem Few.drop {l : List Ro} (h : Few l) (k : Nat) : Few (l.drop k) := fun x hx => h x (List.mem_of_mem_drop hx)
theorem Few.take {l : List Ro} (h : Few l) (k : Nat) : Few (l.take k) := fun x hx => h x (List.mem_of_mem_take hx)
theorem Held.drop {l : List Ro} (h : Held l) (k : Nat) : Held (l.drop k) := fun x hx => h x (List.mem_of_mem_drop hx)
theorem Held.take {l : List Ro} (h : Held l) (k : Nat) : Held (l.take k) := fun x hx => h x (List.mem_of_mem_take hx)
theorem Fits.drop {d : Int} {l : List Ro} (h : Fits d l) (k : Nat) : Fits d (l.drop k) := fun x hx => h x (List.mem_of_mem_drop hx)
theorem Fits.take {d : Int} {l : List Ro} (h : Fits d l) (k : Nat) : Fits d (l.take k) := fun x hx => h x (List.mem_of_mem_take hx)

end Go.Proofs.Ytblefklfgaohfaa.Ro
