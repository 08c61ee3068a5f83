/-
  Walks of stage 4: boltinglaw04.bound, boltingref04.Join; append of rows onto rows.
-/
import Derived.Test.YtblefklfgaohfaaRowWalkI
namespace Go.Proofs.Ytblefklfgaohfaa.Ro
set_option linter.unusedVariables false
set_option linter.unusedSimpArgs false
open Go.RowKit Ba

theorem Ra.take {w : World} {N : Nat} {A : Option Addr} {l : List At} (h : Ra w N A l) (k : Nat) : Ra w N A (l.take k) := fun h0 => by
  rw [List.length_take] at h0
  obtain ⟨b, off, e, hb, hc⟩ := h (by omega)
  refine ⟨b, off, e, hb, fun j hj => ?_⟩
  rw [List.length_take] at hj
  rw [List.getElem_take]
  exact hc j (by omega)
abbrev cut (x : Cw) (ys : List At) : Cw := ⟨⟨x.ro.depth, x.ro.kind, x.ro.name, x.ro.data, ys⟩, x.A, x.c⟩
/-- No more than 60 rows, of no more than 8 attributes. -/
def bounded (l : List Ro) : List Ro := (l.take 60).map fun x => { x with attrs := x.attrs.take 8 }
theorem Att.cut {w : World} {N : Nat} {x : Cw} (h : Att w N x) : Att w N (cut x (x.ro.attrs.take 8)) :=
  ⟨Nat.le_trans (List.length_take_le' _ _) h.1, h.2.1, h.2.2.1, h.2.2.2.1.take 8, fun a ha => h.2.2.2.2 a (List.mem_of_mem_take ha)⟩
theorem bounded_at {l : List Cw} {k : Nat} {x : Cw} (h : l[k]? = some x) (hk : k < 60) : (bounded (ros l)).take (k + 1) = (bounded (ros l)).take k ++ [{ x.ro with attrs := x.ro.attrs.take 8 }] := by
  rw [List.take_add_one]
  congr 1
  rw [bounded, List.getElem?_map, List.getElem?_take_of_lt hk, ros, List.getElem?_map, h]
  rfl
theorem len_bounded (l : List Cw) : (bounded (ros l)).length = min 60 l.length := by rw [bounded, List.length_map, List.length_take, len_ros]
theorem min_any (x : Nat) (m : Nat) (M : Int) (hM : M = m) (y : Nat) (hy : y = min x m) (w : World) : ∀ ts t, (Builtin.min_ ts t #[.int .i64 x, .int .i64 M]).run Try.prog w = .ok (.int .i64 y) w := by
  intro ts t
  rw [run_min_int2, hy]
  congr 2
  split <;> omega

set_option maxRecDepth 100000 in
set_option maxHeartbeats 1000000 in
theorem bound_any (A : Option Addr) (c : Nat) (l : List Cw) (w : World) (hr : Rr w w.heap.size A l) (hc : l.length ≤ c) (hm : c ≤ maxLen) :
    Calls Try.prog 11 #[.slice A l.length c] w fun e w' => ∃ v l', e = .returned v ∧ Ow w.heap.size w' v l' ∧ (∀ x ∈ l', Att w' w.heap.size x) ∧ ros l' = bounded (ros l) ∧ Below w.heap.size w w' := by
  unfold maxLen at hm
  go_enter Try.func11, Try.ntmps11
  go_wp2
  go_loopw [3, 4] (fun v i wr => ∃ (k : Nat) (acc : List Cw), i = .int .i64 k ∧ k ≤ l.length ∧ k ≤ 60 ∧ acc.length = k ∧ Ow w.heap.size wr v acc ∧ (∀ x ∈ acc, Att wr w.heap.size x) ∧ ros acc = (bounded (ros l)).take k ∧ Below w.heap.size w wr) (fun _ i _ => l.length - (intOf i).toNat)
  case atStart => exact ⟨0, [], rfl, by omega, by omega, rfl, Ow.made w, fun _ h => by simp at h, rfl, below_new w _⟩
  case round =>
    obtain ⟨k, acc, rfl, hk, hk6, hal, hown, hatt, hros, hbel⟩ := hrel
    have hsz := hbel.size
    by_cases hp : k < l.length
    · by_cases hp6 : k < 60
      · obtain ⟨b, off, x, rfl, hb, hdx, hx, hxa, hxm⟩ := (hr.below hbel).at_ k hp
        have hs : ros acc ++ [{ x.ro with attrs := x.ro.attrs.take 8 }] = (bounded (ros l)).take (k + 1) := by rw [hros, bounded_at (getElem_of_drop hdx) hp6]
        have hca := hxa.cut
        obtain ⟨ys, hys⟩ : ∃ ys, x.ro.attrs.take 8 = ys := ⟨_, rfl⟩
        have hyl : ys.length = min x.ro.attrs.length 8 := by rw [← hys, List.length_take, Nat.min_comm]
        rw [hys] at hs hca
        have hmin := fun w => min_any x.ro.attrs.length 8 8 rfl ys.length hyl w
        have hyc : ys.length ≤ x.c := hca.1
        have hxc := hxa.1
        have hxm2 := hxa.2.2.1
        unfold maxLen at hxm2
        have HS := Lib.hid hs; have HOW := Lib.hid hown; have HATT := Lib.hid hatt; have HAL := Lib.hid hal; have HCA := Lib.hid hca
        have HC1 : Hid (Att wr wr.heap.size (cut x ys)) := Lib.hid (hca.more hsz)
        have HC2 : Hid (Ap wr w.heap.size (cut x ys)) := Lib.hid hca.apart
        have HC3 : Hid (Att (wr.alloc (rowO (cut x ys))) (wr.alloc (rowO (cut x ys))).heap.size (cut x ys)) := Lib.hid (HC1.out.boxed (Below.refl _ _) _)
        have hacc : acc.length ≤ 2000000 := by omega
        clear hros hdx hs hown hatt hxa hal hca hys hyl
        go_wp2_with (first
          | (refine wpList_load_mid rfl 43 (.tmp 19) rfl b (off + k * 5) rfl _ _ hx Try.underlying43 rfl size_row ?_)
          | (at_builtin; refine app_row _ rfl (.tmp 29) (.tmp 31) rfl w.heap.size _ acc (cut x ys) rfl (HOW.out.alloc _) HC3.out (HC2.out.below (below_new _ _)) (wr.heap.size + 1) (by simp) rfl hacc (by simp; omega) ?_; intro v3 w3 ho3 hk3 hf3))
        go_roundw
        case rel =>
          have hb3 := hk3 w (hbel.alloc hsz _)
          refine ⟨k + 1, acc ++ [cut x ys], by go_num, by omega, by omega, by rw [List.length_append, HAL.out]; rfl, ho3, fun z hz => ?_, by rw [ros_append]; exact HS.out, hb3⟩
          have hbw : Below w.heap.size wr w3 := hk3 wr (below_new wr _ |>.mono hsz)
          rcases List.mem_append.1 hz with h | h
          · exact (HATT.out z h).below hbw
          · obtain rfl := List.mem_singleton.1 h
            exact HCA.out.below hbw
        case measure => simp [intOf]; omega
      · obtain rfl : k = 60 := by omega
        have hrs : ros acc = bounded (ros l) := by rw [hros, List.take_of_length_le]; rw [len_bounded]; omega
        have HR := Lib.hid hrs
        clear hros hrs
        go_wp2
        go_ret
        exact ⟨_, acc, rfl, hown, hatt, HR.out, hbel⟩
    · have hrs : ros acc = bounded (ros l) := by rw [hros, List.take_of_length_le]; rw [len_bounded]; omega
      have HR := Lib.hid hrs
      clear hros hrs
      go_wp2
      go_ret
      exact ⟨_, acc, rfl, hown, hatt, HR.out, hbel⟩

set_option maxRecDepth 100000 in
set_option maxHeartbeats 1000000 in
theorem Join_any (A B : Option Addr) (ca cb : Nat) (a b : List Cw) (w : World) (hra : Rr w w.heap.size A a) (hrb : Rr w w.heap.size B b) (hca : a.length ≤ ca) (hcb : b.length ≤ cb) (hma : a.length ≤ 1000000) (hmb : b.length ≤ 1000000) (hfa : Few (ros a)) (hfb : Few (ros b)) (hda : Held (ros a)) (hdb : Held (ros b)) :
    Calls Try.prog 32 #[.slice A a.length ca, .slice B b.length cb] w fun e w' => ∃ v l', e = .returned v ∧ Ow w.heap.size w' v l' ∧ (∀ x ∈ l', Fr w.heap.size w' x) ∧ ros l' = ros a ++ ros b ∧ Below w.heap.size w w' := by
  go_enter Try.func32, Try.ntmps32
  go_wp2_with fail
  refine (Moved_any A ca a 0 w hra hca hma hfa hda.fits).mono ?_
  rintro e w1 ⟨v1, l1, rfl, ho1, hf1, hr1, hb1⟩
  rw [deeper_zero] at hr1
  have HO1 := Lib.hid ho1; have HF1 := Lib.hid hf1; have HR1 := Lib.hid hr1; have HB1 := Lib.hid hb1
  have hl1 : l1.length ≤ 1000000 := by rw [← len_ros, hr1, len_ros]; exact hma
  clear ho1 hf1 hr1 hb1
  go_wp2_with fail
  refine (Moved_any B cb b 0 w1 ((hrb.below HB1.out).more HB1.out.size) hcb hmb hfb hdb.fits).mono ?_
  rintro e w2 ⟨v2, l2, rfl, ho2, hf2, hr2, hb2⟩
  rw [deeper_zero] at hr2
  have hl2 : l2.length ≤ 1000000 := by rw [← len_ros, hr2, len_ros]; exact hmb
  obtain ⟨A2, c2, rfl, hc2, _, hn2, hrr2⟩ := ho2.form
  have HO2 := Lib.hid ho2; have HF2 := Lib.hid hf2; have HR2 := Lib.hid hr2; have HB2 := Lib.hid hb2; have HRR := Lib.hid hrr2; have HN := Lib.hid hn2
  clear ho2 hf2 hr2 hb2 hrr2 hn2
  go_wp2_with (at_builtin; refine app_rows w2 rfl (.tmp 8) (.tmp 10) rfl w.heap.size _ l1 l2 A2 c2 rfl (HO1.out.below HB2.out) rfl HN.out HRR.out (fun y hy => ((HF2.out y hy).mono HB1.out.size).ap) (by omega) (bt HB1.out HB2.out).size ?_; intro v3 w3 ho3 hk3 hf3)
  go_ret
  refine ⟨v3, l1 ++ l2, rfl, ho3, fun z hz => ?_, by rw [ros_append, HR1.out, HR2.out], hk3 w (bt HB1.out HB2.out)⟩
  rcases List.mem_append.1 hz with h | h
  · exact hf3 z ((HF1.out z h).below HB2.out)
  · exact hf3 z ((HF2.out z h).mono HB1.out.size)

end Go.Proofs.Ytblefklfgaohfaa.Ro
