/-
  Walks of stage 10: Handler, Sink, Element, Attr.
  risk.Element.
  Each string that a statement's row reads is within the reach.
  What a statement's row says of the sizes of strings that lie within slices of structs: each is no greater than the reach.
  Walks of stage 10: Element, Attr, safeElement, Safe.
  Walks of stage 9's reference: Strip, colon, Scheme, Source.
  Walks of stage 10: the reference's Handler, plain, pair, Nav, Sink, Attr.
  Attributes of the call's own; append of one.
  Walks of stage 13: the attributes that are kept.
  Walks of stage 13: what becomes of a row.
  Stage 13: rows of the call's own whose attributes are its own; blocks of a type; an array of numbers in a block.
  Walks of stage 13: filtered.
  Walks of stage 5: names.inElement, inAttr, every, Attr, Right.
-/
import Derived.Test.YtdjkeakagmgfgaaCk04
import Derived.Test.YtdjkeakagmgfgaaCk03
import Derived.Test.YtdjkeakagmgfgaaCk01
import Derived.ChangeSame
import Derived.ProofKit
import Derived.Carry
import Derived.SizedLaws
import Derived.Test.YtdjkeakagmgfgaaCk02
import Derived.OwnWalk
import Derived.Deep.CutRange
import Derived.Deep.LoopGhost
import Derived.WalkMore
namespace Go.Proofs.Ytdjkeakagmgfgaa.Rk
set_option maxRecDepth 100000
set_option linter.unusedVariables false
set_option linter.unusedSimpArgs false
open Go.RowKit Go.Maps Ba Fm Lk Ml
theorem hand_cut (a : ByteArray) (h : 2 < a.size) : ((a.extract 0 2).toList == [111, 110]) = hand (L a) := by
  have e : (a.extract 0 2).toList = (L a).take 2 := by
    rw [toList_L, L_extract]
    rfl
  rw [e]
  rw [← size_L] at h
  match L a, h with
  | x :: y :: z :: r, _ =>
    show ([x, y] == [111, 110]) = (x == 111 && y == 110)
    simp

set_option maxRecDepth 100000 in
theorem handler1 (a : ByteArray) (w : World) (q : Bool) (hq : hand (L a) = q) :
    Calls Try.prog 93 #[.string a] w fun r w' => r = .returned (.bool q) ∧ w = w' := by
  by_cases h : 2 < a.size
  · have hc := hand_cut a h
    rw [hq] at hc
    have h' : (2 : Int) < a.size := by omega
    clear hq
    go_enter Try.func93, Try.ntmps93
    go_wp2
    go_ret
    exact ⟨rfl, rfl⟩
  · have h' : decide ((2 : Int) < a.size) = false := decide_eq_false (by omega)
    have : q = false := by
      rw [← hq]
      rw [← size_L] at h
      match L a, h with
      | [], _ | [_], _ | [_, _], _ => rfl
      | x :: y :: z :: r, e => exact absurd (by simp) e
    subst this
    clear hq
    go_enter Try.func93, Try.ntmps93
    go_wp2
    go_ret
    exact ⟨rfl, rfl⟩

def sinkJobs (b : Nat) : List Job := .mk :: (takesL.flatMap fun p => [.val (pairV p.1 p.2), .ins (pairV p.1 p.2) (.int .i64 3)]) ++ [.val (pairV ⟨#[105, 102, 114, 97, 109, 101]⟩ ⟨#[115, 114, 99, 100, 111, 99]⟩), .ins (pairV ⟨#[105, 102, 114, 97, 109, 101]⟩ ⟨#[115, 114, 99, 100, 111, 99]⟩) (.int .i64 1), .val (.map (some b)), .val (.map (some b))]
def sinkPairs : List (ByteArray × ByteArray × Value) := (takesL.map fun p => (p.1, p.2, Value.int .i64 3)) ++ [(⟨#[105, 102, 114, 97, 109, 101]⟩, ⟨#[115, 114, 99, 100, 111, 99]⟩, .int .i64 1)]
theorem ent_sink (b : Nat) : (sinkJobs b).filterMap ent = sinkPairs := rfl
theorem sink_small : ∀ p ∈ sinkPairs, p.1.size ≤ maxLen ∧ p.2.1.size ≤ maxLen := by
  have h : (sinkPairs.all fun p => decide (p.1.size ≤ 20) && decide (p.2.1.size ≤ 20)) = true := by decide +kernel
  intro p hp
  have := List.all_eq_true.1 h p hp
  rw [Bool.and_eq_true, decide_eq_true_iff, decide_eq_true_iff] at this
  unfold maxLen
  omega
theorem sink_mem {e a : ByteArray} {v : Value} (h : (e, a, v) ∈ sinkPairs) (hh : hand (L a) = false) : v = .int .i64 (sinkN e a) ∧ sinkN e a ≠ 0 := by
  unfold sinkPairs at h
  rcases List.mem_append.1 h with h | h
  · obtain ⟨p, hp, hx⟩ := List.mem_map.1 h
    injection hx with h1 h2
    injection h2 with h2 h3
    have : pairB takesL e a = true := pair_mem.2 (by rw [← h1, ← h2]; exact hp)
    have hs : sinkN e a = 3 := by
      unfold sinkN
      rw [if_neg (by rw [hh]; decide), if_pos this]
    rw [hs]
    exact ⟨h3.symm, by decide⟩
  · have := List.mem_singleton.1 h
    injection this with h1 h2
    injection h2 with h2 h3
    subst h1 h2
    have hs : sinkN ⟨#[105, 102, 114, 97, 109, 101]⟩ ⟨#[115, 114, 99, 100, 111, 99]⟩ = 1 := by decide +kernel
    rw [hs]
    exact ⟨h3, by decide⟩
theorem sink_none {e a : ByteArray} (h : ∀ v, (e, a, v) ∉ sinkPairs) (hh : hand (L a) = false) : sinkN e a = 0 := by
  unfold sinkN
  rw [if_neg (by rw [hh]; decide)]
  rw [if_neg, if_neg]
  · intro hd
    unfold docB at hd
    rw [Bool.and_eq_true, decide_eq_true_iff, decide_eq_true_iff] at hd
    exact h (.int .i64 1) (List.mem_append_right _ (by rw [hd.1, hd.2]; exact List.mem_singleton.2 rfl))
  · intro hd
    exact h (.int .i64 3) (List.mem_append_left _ (List.mem_map.2 ⟨_, pair_mem.1 hd, rfl⟩))

set_option maxRecDepth 100000 in
theorem sink_any (e a : ByteArray) (he : e.size ≤ maxLen) (ha : a.size ≤ maxLen) (w : World) :
    Calls Try.prog 69 #[.string e, .string a] w fun r w' => r = .returned (.int .i64 (sinkN e a)) ∧ Below w.heap.size w w' := by
  cases hh : hand (L a) with
  | true =>
    have hs : sinkN e a = 2 := by
      unfold sinkN
      rw [if_pos hh]
    rw [hs]
    clear hs
    go_enter Try.func69, Try.ntmps69
    go_wp2_with fail
    refine (handler1 a w true hh).mono ?_
    rintro r w1 ⟨rfl, rfl⟩
    clear hh
    go_wp2
    go_ret
    exact ⟨rfl, Below.refl _ _⟩
  | false =>
  go_enter Try.func69, Try.ntmps69
  go_wp2_with fail
  refine (handler1 a w false hh).mono ?_
  rintro r w1 ⟨rfl, rfl⟩
  have HH := Lib.hid hh
  clear hh
  go_wp2
  refine region_pairs (l := sinkJobs w.heap.size) (List.toArray (.string e :: .string a :: undef :: undef :: .int .i64 0 :: .map (some w.heap.size) :: undef :: undef :: .string a :: .bool false :: .map (some w.heap.size) :: .agg #[.string ⟨#[115, 99, 114, 105, 112, 116]⟩, .string ⟨#[115, 114, 99]⟩] :: .agg #[.string ⟨#[101, 109, 98, 101, 100]⟩, .string ⟨#[115, 114, 99]⟩] :: .agg #[.string ⟨#[111, 98, 106, 101, 99, 116]⟩, .string ⟨#[100, 97, 116, 97]⟩] :: .agg #[.string ⟨#[105, 102, 114, 97, 109, 101]⟩, .string ⟨#[115, 114, 99, 100, 111, 99]⟩] :: .map (some w.heap.size) :: undef :: undef :: undef :: undef :: undef :: undef :: undef :: undef :: undef :: undef :: [])) (by kernel_rfl) lawPair Try.underlying99 rfl (by kernel_rfl) ?_ ?_ (by kernel_rfl) ?_
  · refine ⟨rfl, fun a w _ => ?_, does_insC 0 1 rfl rfl rfl (by simp) (by simp) rfl rfl rfl rfl, fun a w _ => ?_, does_insC 0 3 rfl rfl rfl (by simp) (by simp) rfl rfl rfl rfl, fun a w _ => ?_, does_insC 0 5 rfl rfl rfl (by simp) (by simp) rfl rfl rfl rfl, fun a w _ => ?_, does_insC 0 7 rfl rfl rfl (by simp) (by simp) rfl rfl rfl rfl, does_move 0 (.inl rfl) (by simp) rfl rfl, does_move 9 (.inr rfl) (by simp) rfl rfl, trivial⟩
    all_goals (go_simp; try rfl)
  · intro e' a' v hm
    rw [ent_sink] at hm
    have := sink_small _ hm
    exact key_pair this.1 this.2
  · intro w1 hb1 hT
    rw [ent_sink] at hT
    obtain ⟨x, hx⟩ := key_pair he ha
    have hz : (zeroValue 3).run Try.prog w1 = .ok (.int .i64 0) w1 := by kernel_rfl
    have hl : ∃ k : Nat, k = sinkN e a ∧ (Instr.lookup 99 (.map (some w.heap.size)) (.agg #[.string e, .string a]) true).run Try.prog w1 = .ok (.tuple #[.int .i64 k, .bool (decide (k ≠ 0))]) w1 := by
      rcases hT.look lawPair Try.underlying99 hz hx with ⟨h1, h2⟩ | ⟨v, ⟨e', a', h2, h3⟩, h1⟩
      · have : sinkN e a = 0 := sink_none (fun v hv => h2 v ⟨e, a, rfl, hv⟩) HH.out
        exact ⟨0, this.symm, h1⟩
      · obtain ⟨rfl, rfl⟩ := pairV_inj h2
        obtain ⟨h4, h5⟩ := sink_mem h3 HH.out
        refine ⟨_, rfl, ?_⟩
        rw [decide_eq_true h5, ← h4]
        exact h1
    clear hT hx hz
    obtain ⟨k, hk, hl⟩ := hl
    have HK := Lib.hid hk
    clear hk
    by_cases h0 : k = 0
    · subst h0
      go_wp2
      go_ret
      exact ⟨congrArg (fun n : Nat => Ending.returned (.int .i64 n)) HK.out, (Below.refl _ _).drew.trans hb1⟩
    · have h0' : decide (k ≠ 0) = true := decide_eq_true h0
      rw [h0'] at hl
      clear h0 h0'
      go_wp2
      go_ret
      exact ⟨congrArg (fun n : Nat => Ending.returned (.int .i64 n)) HK.out, (Below.refl _ _).drew.trans hb1⟩
end Go.Proofs.Ytdjkeakagmgfgaa.Rk

namespace Go.Proofs.Ytdjkeakagmgfgaa.Rk
set_option maxRecDepth 100000
set_option linter.unusedVariables false
set_option linter.unusedSimpArgs false
open Go.RowKit Ba Fm
theorem eqlit (s : ByteArray) (l : List UInt8) : (s.toList == l) = decide (s = ⟨l.toArray⟩) := by
  rw [← ByteArray.toList_mk l, eq_of_toList, ByteArray.toList_mk]
theorem never_or (e : ByteArray) (b0 b1 b2 b3 b4 b5 b6 b7 : Bool) (h0 : (e.toList == [98, 97, 115, 101]) = b0) (h1 : (e.toList == [101, 109, 98, 101, 100]) = b1) (h2 : (e.toList == [102, 114, 97, 109, 101]) = b2) (h3 : (e.toList == [105, 102, 114, 97, 109, 101]) = b3) (h4 : (e.toList == [108, 105, 110, 107]) = b4) (h5 : (e.toList == [109, 101, 116, 97]) = b5) (h6 : (e.toList == [111, 98, 106, 101, 99, 116]) = b6) (h7 : (e.toList == [115, 99, 114, 105, 112, 116]) = b7) : (b0 || b1 || b2 || b3 || b4 || b5 || b6 || b7) = neverB e := by
  rw [eqlit] at h0 h1 h2 h3 h4 h5 h6 h7
  subst h0 h1 h2 h3 h4 h5 h6 h7
  unfold neverB isIn unsafeL
  rw [Bool.eq_iff_iff]
  simp [or_assoc]
set_option maxRecDepth 100000 in
theorem element1 (e : ByteArray) (w : World) (q : Bool) (hq : neverB e = q) :
    Calls Try.prog 75 #[.string e] w fun r w' => r = .returned (.bool q) ∧ w = w' := by
  obtain ⟨b0, h0⟩ : ∃ b, (e.toList == [98, 97, 115, 101]) = b := ⟨_, rfl⟩
  obtain ⟨b1, h1⟩ : ∃ b, (e.toList == [101, 109, 98, 101, 100]) = b := ⟨_, rfl⟩
  obtain ⟨b2, h2⟩ : ∃ b, (e.toList == [102, 114, 97, 109, 101]) = b := ⟨_, rfl⟩
  obtain ⟨b3, h3⟩ : ∃ b, (e.toList == [105, 102, 114, 97, 109, 101]) = b := ⟨_, rfl⟩
  obtain ⟨b4, h4⟩ : ∃ b, (e.toList == [108, 105, 110, 107]) = b := ⟨_, rfl⟩
  obtain ⟨b5, h5⟩ : ∃ b, (e.toList == [109, 101, 116, 97]) = b := ⟨_, rfl⟩
  obtain ⟨b6, h6⟩ : ∃ b, (e.toList == [111, 98, 106, 101, 99, 116]) = b := ⟨_, rfl⟩
  obtain ⟨b7, h7⟩ : ∃ b, (e.toList == [115, 99, 114, 105, 112, 116]) = b := ⟨_, rfl⟩
  have HQ := Lib.hid ((never_or e b0 b1 b2 b3 b4 b5 b6 b7 h0 h1 h2 h3 h4 h5 h6 h7).trans hq)
  clear hq
  go_enter Try.func75, Try.ntmps75
  cases b0 with
  | true =>
    go_wp2
    go_ret
    exact ⟨ret_bool (by rw [← HQ.out]; simp), rfl⟩
  | false =>
  cases b1 with
  | true =>
    go_wp2
    go_ret
    exact ⟨ret_bool (by rw [← HQ.out]; simp), rfl⟩
  | false =>
  cases b2 with
  | true =>
    go_wp2
    go_ret
    exact ⟨ret_bool (by rw [← HQ.out]; simp), rfl⟩
  | false =>
  cases b3 with
  | true =>
    go_wp2
    go_ret
    exact ⟨ret_bool (by rw [← HQ.out]; simp), rfl⟩
  | false =>
  cases b4 with
  | true =>
    go_wp2
    go_ret
    exact ⟨ret_bool (by rw [← HQ.out]; simp), rfl⟩
  | false =>
  cases b5 with
  | true =>
    go_wp2
    go_ret
    exact ⟨ret_bool (by rw [← HQ.out]; simp), rfl⟩
  | false =>
  cases b6 with
  | true =>
    go_wp2
    go_ret
    exact ⟨ret_bool (by rw [← HQ.out]; simp), rfl⟩
  | false =>
  cases b7 with
  | true =>
    go_wp2
    go_ret
    exact ⟨ret_bool (by rw [← HQ.out]; simp), rfl⟩
  | false =>
  go_wp2
  go_ret
  exact ⟨ret_bool (by rw [← HQ.out]; rfl), rfl⟩

end Go.Proofs.Ytdjkeakagmgfgaa.Rk

namespace Go.Proofs.Ytdjkeakagmgfgaa.Rz
set_option linter.unusedVariables false
set_option linter.unusedSimpArgs false
open Go.RowKit Go.ChangeShapes Go.WideShapes
/-- Each string that is read there, and each row of memory, is within the reach. -/
def Within {H : Type} (P : Program) (t : TypeId) (d : DataW H) : Prop := ∀ m ∈ d.weights P t, m ≤ reachBytes
theorem within_all {H : Type} {P : Program} {e : TypeId} {d : DataW H} {m : Nat} : ∀ {l : List (DataW H)}, d ∈ l → m ∈ d.weights P e → m ∈ DataW.weightsAll P e l
  | [], h, _ => by cases h
  | x :: r, h, hm => by
    rw [DataW.weightsAll, List.mem_append]
    rcases List.mem_cons.1 h with rfl | h
    · exact .inl hm
    · exact .inr (within_all h hm)
theorem Within.elem {H : Type} {P : Program} {t e : TypeId} {l sp : List (DataW H)} {d : DataW H} (h : Within P t (.slice l sp)) (ht : P.underlying t = some (.slice e)) (hd : d ∈ l) : Within P e d := fun m hm => h m (by
  simp only [DataW.weights, ht, List.mem_cons, List.mem_append]
  exact .inr (.inl (within_all hd hm)))
theorem Within.part {H : Type} {P : Program} {t : TypeId} {fs : Array Field} {l : List (DataW H)} {d : DataW H} {j : Nat} {f : Field} (h : Within P t (.agg l)) (ht : P.underlying t = some (.struct fs)) (hf : fs[j]? = some f) (hd : l[j]? = some d) : Within P f.type d := fun m hm => h m (by
  simp only [DataW.weights, ht]
  exact DataW.weights_mem_each (j := j) (by rw [List.getElem?_map, Array.getElem?_toList, hf]; rfl) hd m hm)
theorem Within.str {H : Type} {P : Program} {t : TypeId} {s : ByteArray} (h : Within P t (.lit (.string s.data.toList) : DataW H)) : s.size ≤ reachBytes := by
  have := h s.data.toList.length (by simp [DataW.weights])
  rw [Array.length_toList] at this
  exact this
theorem sized_all {H : Type} {P : Program} {ts : List TypeId} {ds : List (DataW H)} (h : (DataW.weightsEach P ts ds).all (· ≤ reachBytes) = true) {j : Nat} {t : TypeId} {d : DataW H} (ht : ts[j]? = some t) (hd : ds[j]? = some d) : Within P t d := fun m hm => by
  have := List.all_eq_true.1 h m (DataW.weights_mem_each ht hd m hm)
  simpa using this

theorem reach_le {n : Nat} (h : n ≤ reachBytes) : n ≤ 140737488355328 := Nat.le_trans h (by decide)

end Go.Proofs.Ytdjkeakagmgfgaa.Rz

namespace Go.Proofs.Ytdjkeakagmgfgaa.Rz
set_option maxRecDepth 100000
set_option linter.unusedVariables false
set_option linter.unusedSimpArgs false
open Go.RowKit Ba Go.ChangeShapes Go.WideShapes Go.Deep
open Ro (At Ro Cw ros Rv Rr Att Held cells acells Ra Sh open_rows_parts)
/-- Names and values of attributes are within the reach. -/
def SmallA (l : List At) : Prop := ∀ a ∈ l, a.name.size ≤ 140737488355328 ∧ a.value.size ≤ 140737488355328
def SmallR (x : Ro) : Prop := x.name.size ≤ 140737488355328 ∧ x.data.size ≤ 140737488355328 ∧ SmallA x.attrs
def Small (l : List Ro) : Prop := ∀ x ∈ l, SmallR x
section
variable {H : Type} {enc : TypeId × Value → H} {w : World} {base : Nat}
theorem attrs_small {fuel N c : Nat} {v : Value} {x : DataW H × List MemPlace} {A : Option Addr} {l : List At} (h : DataW.trod enc Try.prog w 0 (fun _ => true) true fuel 34 [v] = some x) (hv : v = .slice A l.length c) (hr : Ra w N A l) (hz : Within Try.prog 34 x.1) : SmallA l := by
  subst hv
  rcases open_rows_parts Try.underlying34 Try.underlying40 (by kernel_rfl) (by kernel_rfl) h with hcs | ⟨a, len, cap, D, sp, hcs, hx, hi⟩
  · simp at hcs
    obtain ⟨_, hl, _⟩ := hcs
    have : l = [] := hl
    subst this
    intro a ha
    cases ha
  · simp at hcs
    obtain ⟨hA, hl, _⟩ := hcs
    intro a0 ha0
    obtain ⟨i, hil, rfl⟩ := List.getElem_of_mem ha0
    obtain ⟨b, off, e, _, hc⟩ := hr (by omega)
    rw [hA] at e
    injection e with e
    subst e
    rw [hx] at hz
    have hzi := hz.elem (d := D i) Try.underlying34 (List.mem_map.2 ⟨i, List.mem_range.2 (by omega), rfl⟩)
    obtain ⟨u0, y0, n0, p0, hc0, hD0, hy0, ht0⟩ := hi i (by omega) 0 _ rfl
    obtain ⟨u1, y1, n1, p1, hc1, hD1, hy1, ht1⟩ := hi i (by omega) 1 _ rfl
    obtain rfl : p0 = p1 := by rw [hD0] at hD1; injection hD1
    obtain ⟨s0, e0, g0, _⟩ := DataW.trod_string Try.underlying9 ht0
    obtain ⟨s1, e1, g1, _⟩ := DataW.trod_string Try.underlying9 ht1
    rw [add_plain] at hc0 hc1
    have k0 := hc i hil 0 (.string l[i].name) rfl
    have k1 := hc i hil 1 (.string l[i].value) rfl
    have q0 : s0 = l[i].name := by
      obtain rfl : u0 = .string s0 := by simpa using e0
      rw [show off + i * 2 + 0 = off + (i * 2 + 0) by omega] at k0
      have := hc0.symm.trans k0
      injection this with this
      injection this
    have q1 : s1 = l[i].value := by
      obtain rfl : u1 = .string s1 := by simpa using e1
      rw [show off + i * 2 + 1 = off + (i * 2 + 1) by omega] at k1
      have := hc1.symm.trans k1
      injection this with this
      injection this
    rw [hD0] at hzi
    have z0 := hzi.part Try.underlying40 rfl hy0
    have z1 := hzi.part Try.underlying40 rfl hy1
    rw [g0] at z0
    rw [g1] at z1
    have z0 := reach_le z0.str
    have z1 := reach_le z1.str
    rw [← q0, ← q1]
    exact ⟨z0, z1⟩
theorem rows_small {v : Value} {l : List Cw} {d : DataW H} {p : List MemPlace} (hs : Rv w v l)
    (h : ∃ fuel, DataW.trod enc Try.prog w 0 (fun _ => true) true fuel 22 v.cells.toList = some (d, p)) (hz : Within Try.prog 22 d) : Small (ros l) := by
  obtain ⟨A, c, rfl, _, _, hr, _⟩ := hs
  obtain ⟨fuel, hf⟩ := h
  rcases open_rows_parts Try.underlying22 Try.underlying36 (by kernel_rfl) (by kernel_rfl) hf with hcs | ⟨a, len, cap, D, sp, hcs, hx, hi⟩
  · simp [Value.cells] at hcs
    obtain ⟨_, hl, _⟩ := hcs
    have : l = [] := hl
    subst this
    intro a ha
    cases ha
  · simp [Value.cells] at hcs
    obtain ⟨hA, hl, _⟩ := hcs
    have hx : d = _ := hx
    intro x0 hx0
    obtain ⟨y0, hy0, rfl⟩ := List.mem_map.1 hx0
    obtain ⟨i, hil, rfl⟩ := List.getElem_of_mem hy0
    obtain ⟨b, off, e, _, hc⟩ := hr.1 (by omega)
    rw [hx] at hz
    have hzi := hz.elem (d := D i) Try.underlying22 (List.mem_map.2 ⟨i, List.mem_range.2 (by omega), rfl⟩)
    obtain ⟨v2, y2, n2, p2, hc2, hD2, g2, ht2⟩ := hi i (by omega) 2 _ rfl
    obtain ⟨v3, y3, n3, p3, hc3, hD3, g3, ht3⟩ := hi i (by omega) 3 _ rfl
    obtain ⟨v4, y4, n4, p4, hc4, hD4, g4, ht4⟩ := hi i (by omega) 4 _ rfl
    obtain rfl : p2 = p3 := by rw [hD2] at hD3; injection hD3
    obtain rfl : p2 = p4 := by rw [hD2] at hD4; injection hD4
    obtain ⟨s2, e2, b2, _⟩ := DataW.trod_string Try.underlying9 ht2
    obtain ⟨s3, e3, b3, _⟩ := DataW.trod_string Try.underlying9 ht3
    obtain rfl : v2 = .string s2 := by simpa using e2
    obtain rfl : v3 = .string s3 := by simpa using e3
    rw [hA] at e
    injection e with e
    subst e
    rw [add_plain] at hc2 hc3 hc4
    have k2 := hc i hil 2 (.string l[i].ro.name) rfl
    have k3 := hc i hil 3 (.string l[i].ro.data) rfl
    have k4 := hc i hil 4 (.slice l[i].A l[i].ro.attrs.length l[i].c) rfl
    rw [show off + i * 5 + 2 = off + (i * 5 + 2) by omega] at k2
    rw [show off + i * 5 + 3 = off + (i * 5 + 3) by omega] at k3
    rw [show off + i * 5 + 4 = off + (i * 5 + 4) by omega] at k4
    have q2 : s2 = l[i].ro.name := by
      have := Option.some.inj (hc2.symm.trans k2)
      injection this
    have q3 : s3 = l[i].ro.data := by
      have := Option.some.inj (hc3.symm.trans k3)
      injection this
    obtain rfl : v4 = .slice l[i].A l[i].ro.attrs.length l[i].c := Option.some.inj (hc4.symm.trans k4)
    have hra := (hr.2 l[i] (List.getElem_mem _)).2.2.2.1
    rw [hD2] at hzi
    have z2 := hzi.part Try.underlying36 rfl g2
    have z3 := hzi.part Try.underlying36 rfl g3
    have z4 := hzi.part Try.underlying36 rfl g4
    rw [b2] at z2
    rw [b3] at z3
    have h2 := z2.str
    have h3 := z3.str
    rw [q2] at h2
    rw [q3] at h3
    exact ⟨reach_le h2, reach_le h3, attrs_small ht4 rfl hra z4⟩
end
end Go.Proofs.Ytdjkeakagmgfgaa.Rz

namespace Go.Proofs.Ytdjkeakagmgfgaa.Rk
set_option maxRecDepth 100000
set_option linter.unusedVariables false
set_option linter.unusedSimpArgs false
open Go.RowKit Go.Maps Ba Fm Lk Ml
open Ro (At Ro Cw ros Rv Rr Att Ra rowO box_at box_kept getElem_of_drop below_new size_row size_attr range5 range2 cells)
theorem nav1 (e a : ByteArray) (he : e.size ≤ 140737488355328) (ha : a.size ≤ 140737488355328) (w : World) (q : Bool) (hq : navB e a = q) :
    Calls Try.prog 70 #[.string e, .string a] w fun r w' => r = .returned (.bool q) ∧ Below w.heap.size w w' := by
  have := nav_any e a (by unfold maxLen; omega) (by unfold maxLen; omega) w
  rw [hq] at this
  exact this
theorem sink1 (e a : ByteArray) (he : e.size ≤ 140737488355328) (ha : a.size ≤ 140737488355328) (w : World) (n : Nat) (hq : sinkN e a = n) :
    Calls Try.prog 69 #[.string e, .string a] w fun r w' => r = .returned (.int .i64 n) ∧ Below w.heap.size w w' := by
  have := sink_any e a (by unfold maxLen; omega) (by unfold maxLen; omega) w
  rw [hq] at this
  exact this
theorem script10 (s : ByteArray) (w : World) (hs : s.size ≤ 140737488355328) (q : Bool) (hq : scriptL (L s) = q) :
    Calls Try.prog 71 #[.string s] w fun e w' => e = .returned (.bool q) ∧ Below w.heap.size w w' := script1 s w hs q hq

theorem abox_kept {w w3 : World} {n v : ByteArray} (hb : Below (w.alloc (.cells #[.string n, .string v] 40)).heap.size (w.alloc (.cells #[.string n, .string v] 40)) w3) (j : Nat) : w3.cell? ⟨w.heap.size, j, none⟩ = (Ro.acells ⟨n, v⟩)[j]? :=
  (hb.cell (p := ⟨w.heap.size, j, none⟩) (by simp)).trans (by
    rw [World.cell?_alloc_mark]
    match j with
    | 0 | 1 => rfl
    | j + 2 => simp [Ro.acells])
set_option maxRecDepth 100000 in
theorem attr1 (e : ByteArray) (a : At) (he : e.size ≤ 140737488355328) (ha : a.name.size ≤ 140737488355328) (hv : a.value.size ≤ 140737488355328) (w : World) (q : Bool) (hq : attrB e a = q) :
    Calls Try.prog 36 #[.string e, .agg #[.string a.name, .string a.value]] w fun r w' => r = .returned (.bool q) ∧ Below w.heap.size w w' := by
  obtain ⟨n, v⟩ := a
  simp only at ha hv ⊢
  obtain ⟨k, hk⟩ : ∃ k, sinkN e n = k := ⟨_, rfl⟩
  obtain ⟨b, hb⟩ : ∃ b, navB e n = b := ⟨_, rfl⟩
  obtain ⟨s, hs⟩ : ∃ s, scriptL (L v) = s := ⟨_, rfl⟩
  have hq' : (decide (k ≠ 0) || (b && s)) = q := by
    rw [← hq, ← hk, ← hb, ← hs]
    rfl
  have HK := Lib.hid hk; have HB := Lib.hid hb; have HS := Lib.hid hs; have HQ := Lib.hid hq'
  clear hk hb hs hq hq'
  go_enter Try.func36, Try.ntmps36
  go_wp2_with fail
  refine (sink1 e n he ha _ k HK.out).mono ?_
  rintro r w1 ⟨rfl, b1⟩
  have c0 := abox_kept b1 0
  have c1 := abox_kept b1 1
  simp only [Ro.acells, List.getElem?_cons_zero, List.getElem?_cons_succ] at c0 c1
  have hlt : w.heap.size < w1.heap.size := Nat.lt_of_lt_of_le (by simp) b1.size
  have B1 := Lib.hid ((below_new w _).trans (b1.mono (by simp)))
  clear b1
  by_cases h0 : k = 0
  · subst h0
    go_wp2_with fail
    refine (nav1 e n he ha _ b HB.out).mono ?_
    rintro r w2 ⟨rfl, b2⟩
    have d1 := (b2.cell (p := ⟨w.heap.size, 1, none⟩) hlt).trans c1
    have B2 := Lib.hid (B1.out.trans (b2.mono B1.out.size))
    clear b2 c0 c1
    cases b with
    | true =>
      go_wp2_with fail
      refine (script10 v _ hv s HS.out).mono ?_
      rintro r w3 ⟨rfl, b3⟩
      have B3 := Lib.hid (B2.out.trans (b3.mono B2.out.size))
      clear b3
      go_wp2
      go_ret
      exact ⟨ret_bool (by rw [← HQ.out]; simp), B3.out⟩
    | false =>
      go_wp2
      go_ret
      exact ⟨ret_bool (by rw [← HQ.out]; rfl), B2.out⟩
  · have h0n : ¬ (k : Int) = 0 := by omega
    have hq1 : true = q := by rw [← HQ.out, decide_eq_true h0]; rfl
    clear c0 c1
    subst hq1
    go_wp2
    go_ret
    exact ⟨rfl, B1.out⟩

set_option maxRecDepth 100000 in
/-- An element alone: it, and each of its attributes. -/
theorem safeElement1 (x : Cw) (w : World) (hx : Att w w.heap.size x) (hs : Rz.SmallR x.ro) (q : Bool) (hq : (!neverB x.ro.name && x.ro.attrs.all fun a => !attrB x.ro.name a) = q) :
    Calls Try.prog 40 #[Ro.rowV x] w fun r w' => r = .returned (.bool q) ∧ Below w.heap.size w w' := by
  obtain ⟨hn, _, hatt⟩ := hs
  obtain ⟨b, hb⟩ : ∃ b, neverB x.ro.name = b := ⟨_, rfl⟩
  have HB := Lib.hid hb
  rw [hb] at hq
  have HQ := Lib.hid hq
  clear hb hq
  have hlen := hx.1
  have hcm := hx.2.2.1
  have HX := Lib.hid hx
  clear hx
  unfold maxLen at hcm
  go_enter Try.func40, Try.ntmps40
  go_wp2_with fail
  refine (element1 x.ro.name _ b HB.out).mono ?_
  rintro r w1 ⟨rfl, rfl⟩
  cases b with
  | true =>
    go_wp2
    go_ret
    exact ⟨ret_bool (by rw [← HQ.out]; rfl), below_new _ _⟩
  | false =>
    go_wp2
    go_loopw [4, 11] (fun _ i wr => ∃ k : Nat, i = .int .i64 k ∧ k ≤ x.ro.attrs.length ∧ Hid ((x.ro.attrs.take k).all (fun a => !attrB x.ro.name a) = true) ∧ Below w.heap.size w wr ∧ w.heap.size < wr.heap.size ∧ wr.cell? ⟨w.heap.size, 2, none⟩ = some (.string x.ro.name)) (fun _ i _ => x.ro.attrs.length - (intOf i).toNat)
    case atStart => exact ⟨0, rfl, by omega, rfl, below_new _ _, by simp, by rw [box_at]; rfl⟩
    case round =>
      obtain ⟨k, rfl, hk, hall, hbel, hlt, hcell⟩ := hrel
      have hsz := hbel.size
      by_cases hp : k < x.ro.attrs.length
      · obtain ⟨b, off, a, hA, hb, hd, hx, hxm⟩ := (HX.out.2.2.2.1.below hbel).at_ k hp
        rw [hA]
        obtain ⟨q1, hq1⟩ : ∃ q1, attrB x.ro.name a = q1 := ⟨_, rfl⟩
        have HQ1 := Lib.hid hq1
        have htk : x.ro.attrs.take (k + 1) = x.ro.attrs.take k ++ [a] := by
          rw [List.take_add_one, getElem_of_drop hd]
          rfl
        have HT := Lib.hid htk
        have HM := Lib.hid hxm
        have hsa := hatt a hxm
        clear hd htk hxm hq1
        go_wp2_with (refine wpList_load_mid rfl 40 (.tmp 13) rfl b (off + k * 2) rfl _ _ hx Try.underlying40 rfl size_attr ?_)
        refine (attr1 x.ro.name a hn hsa.1 hsa.2 _ q1 HQ1.out).mono ?_
        rintro r w3 ⟨rfl, b3⟩
        have B3 : Below w.heap.size wr w3 := (below_new wr _ |>.mono hsz).trans (b3.mono (by simp; omega))
        have C3 : w3.cell? ⟨w.heap.size, 2, none⟩ = some (.string x.ro.name) := (b3.cell (p := ⟨w.heap.size, 2, none⟩) (by simp; omega)).trans ((Below.cell (below_new wr _) (p := ⟨w.heap.size, 2, none⟩) hlt).trans hcell)
        have HB3 := Lib.hid (hbel.trans B3)
        have hl3 : w.heap.size < w3.heap.size := Nat.lt_of_lt_of_le hlt B3.size
        clear b3 B3 hx hcell
        cases q1 with
        | true =>
          have he : q = false := by
            rw [← HQ.out, Bool.not_false, Bool.true_and, ← Bool.not_eq_true]
            intro h
            have := List.all_eq_true.1 h a HM.out
            rw [HQ1.out] at this
            cases this
          subst he
          clear HQ
          go_wp2
          go_ret
          exact ⟨rfl, HB3.out⟩
        | false =>
          have hall' : (x.ro.attrs.take (k + 1)).all (fun a => !attrB x.ro.name a) = true := by
            rw [HT.out, List.all_append, hall.out]
            simp [HQ1.out]
          have HA := Lib.hid hall'
          clear hall hall'
          go_wp2
          go_roundw
          case rel => exact ⟨k + 1, by go_num, by omega, HA, HB3.out, hl3, C3⟩
          case measure => simp [intOf]; omega
      · have he : q = true := by
          rw [← HQ.out]
          have := hall.out
          rw [List.take_of_length_le (by omega)] at this
          simpa using this
        subst he
        clear HQ
        go_wp2
        go_ret
        exact ⟨rfl, hbel⟩

/-- Rows whose strings are within the reach: whether they are safe. -/
theorem safe1 (v : Value) (l : List Cw) (w : World) (hv : Rv w v l) (hs : Rz.Small (ros l)) (q : Bool) (hq : safeB (ros l) = q) :
    Calls Try.prog 20 #[v] w fun r w' => r = .returned (.bool q) ∧ Below w.heap.size w w' := by
  obtain ⟨A, c, rfl, hlc, hcm, hr, _⟩ := hv
  unfold maxLen at hcm
  have HQ := Lib.hid hq
  clear hq
  go_enter Try.func20, Try.ntmps20
  go_wp2
  go_loopw [4, 7] (fun _ i wr => ∃ k : Nat, i = .int .i64 k ∧ k ≤ l.length ∧ Hid (safeB ((ros l).take k) = true) ∧ Below w.heap.size w wr) (fun _ i _ => l.length - (intOf i).toNat)
  case atStart => exact ⟨0, rfl, by omega, rfl, Below.refl _ _⟩
  case round =>
    obtain ⟨k, rfl, hk, hall, hbel⟩ := hrel
    have hsz := hbel.size
    by_cases hp : k < l.length
    · obtain ⟨b, off, x, hA, hb, hd, hx, hatt, hxm⟩ := (hr.below hbel).at_ k hp
      rw [hA]
      obtain ⟨q1, hq1⟩ : ∃ q1, rowB x.ro = q1 := ⟨_, rfl⟩
      have HQ1 := Lib.hid hq1
      have htk : (ros l).take (k + 1) = (ros l).take k ++ [x.ro] := by
        have := getElem_of_drop hd
        rw [List.take_add_one]
        unfold ros
        rw [List.getElem?_map, this]
        rfl
      have HT := Lib.hid htk
      have hxm' : x.ro ∈ ros l := List.mem_map.2 ⟨x, hxm, rfl⟩
      have HM := Lib.hid hxm'
      have hsx := Lib.hid (hs x.ro hxm')
      have HATT : Hid (Att (wr.alloc (rowO x)) (wr.alloc (rowO x)).heap.size x) := Lib.hid ((hatt.more hsz).boxed (Below.refl _ _) _)
      clear hd htk hxm hxm' hq1 hatt
      have hend : ∀ w3, Below w.heap.size wr w3 → Hid (Below w.heap.size w w3) := fun w3 h => Lib.hid (hbel.trans h)
      by_cases h0 : x.ro.kind = 0
      · have hq2 : (!neverB x.ro.name && x.ro.attrs.all fun a => !attrB x.ro.name a) = q1 := by
          have := HQ1.out
          unfold rowB at this
          rw [if_pos h0] at this
          rw [Bool.and_comm]
          exact this
        have HQ2 := Lib.hid hq2
        clear hq2
        go_wp2_with (refine wpList_load_mid rfl 36 (.tmp 9) rfl b (off + k * 5) rfl _ _ hx Try.underlying36 rfl size_row ?_)
        have K := safeElement1 x _ HATT.out hsx.out q1 HQ2.out
        simp only [rowO, Ro.rowV, h0] at K
        refine K.mono ?_
        rintro r w3 ⟨rfl, b3⟩
        have HB3 := hend w3 ((below_new wr _ |>.mono hsz).trans (b3.mono (by simp; omega)))
        clear b3 hx K
        cases q1 with
        | true =>
          have hall' : safeB ((ros l).take (k + 1)) = true := by rw [HT.out, safe_append, hall.out, safe_one, HQ1.out]; rfl
          have HA := Lib.hid hall'
          clear hall hall'
          go_wp2
          go_roundw
          case rel => exact ⟨k + 1, by go_num, by omega, HA, HB3.out⟩
          case measure => simp [intOf]; omega
        | false =>
          have he : q = false := by
            rw [← HQ.out, ← Bool.not_eq_true]
            intro h
            have := safe_of h _ HM.out
            rw [HQ1.out] at this
            cases this
          subst he
          clear HQ
          go_wp2
          go_ret
          exact ⟨rfl, HB3.out⟩
      · have hr1 : rowB x.ro = true := by unfold rowB; rw [if_neg h0]
        have hall' : safeB ((ros l).take (k + 1)) = true := by rw [HT.out, safe_append, hall.out, safe_one, hr1]; rfl
        have HA := Lib.hid hall'
        have HB3 := hend _ (below_new wr (rowO x) |>.mono hsz)
        clear hall hall' hr1
        go_wp2_with (refine wpList_load_mid rfl 36 (.tmp 9) rfl b (off + k * 5) rfl _ _ hx Try.underlying36 rfl size_row ?_)
        go_roundw
        case rel => exact ⟨k + 1, by go_num, by omega, HA, HB3.out⟩
        case measure => simp [intOf]; omega
    · have he : q = true := by
        rw [← HQ.out]
        have := hall.out
        rw [List.take_of_length_le (by rw [Ro.len_ros]; omega)] at this
        exact this
      subst he
      clear HQ
      go_wp2
      go_ret
      exact ⟨rfl, hbel⟩
end Go.Proofs.Ytdjkeakagmgfgaa.Rk

namespace Go.Proofs.Ytdjkeakagmgfgaa.Lk
set_option maxRecDepth 100000
set_option linter.unusedSimpArgs false
set_option linter.unusedVariables false
open Go.RowKit Ba Fm Fo
end Go.Proofs.Ytdjkeakagmgfgaa.Lk

namespace Go.Proofs.Ytdjkeakagmgfgaa.Rk
set_option maxRecDepth 100000
set_option linter.unusedVariables false
set_option linter.unusedSimpArgs false
open Go.RowKit Go.Maps Ba Fm Lk Ml Fo
open Ro (At Ro)
/-! ### Pairs, joined by a blank. -/
theorem joined_any (P : List (ByteArray × ByteArray)) (e a : ByteArray) : (P.any fun p => decide (joinP p = joinP (e, a))) = isIn (joinP (e, a)) (P.map joinP) := by
  rw [Bool.eq_iff_iff, List.any_eq_true]
  constructor
  · rintro ⟨p, hp, h⟩
    exact isIn_yes (by rw [← of_decide_eq_true h]; exact List.mem_map.2 ⟨p, hp, rfl⟩)
  · intro h
    obtain ⟨p, hp, hj⟩ := List.mem_map.1 (isIn_of h)
    exact ⟨p, hp, decide_eq_true hj⟩
end Go.Proofs.Ytdjkeakagmgfgaa.Rk

namespace Go.Proofs.Ytdjkeakagmgfgaa.To
set_option maxRecDepth 100000
set_option linter.unusedSimpArgs false
set_option linter.unusedVariables false
open Go.RowKit Ba
open Ro (At acells len_acells below_new Sh Ra acells_one info_attr)
/-- Attributes of the call's own. -/
def Aw (N : Nat) (w : World) (v : Value) (l : List At) : Prop := w.ownsRow N 40 2 v l.length (l.flatMap acells) ∧ Sh l
theorem Aw.nil (N : Nat) (w : World) : Aw N w (.slice none 0 0) [] := ⟨World.ownsRow_nil w N _ 2, fun _ h => by simp at h⟩
/-- A block that is none of attributes is not theirs. -/
theorem Aw.ne {N b : Nat} {w : World} {v : Value} {l : List At} (h : Aw N w v l) {cs : Array Value} {t : TypeId} {fr : Nat × Nat} (hb : w.heap[b]? = some (.cells cs t fr)) (ht : t ≠ 40) : v.ownBlock ≠ some b := by
  rcases h.1.2 with ⟨rfl, _⟩ | ⟨g, cap, cur, rfl, _, hh, _⟩
  · simp [Value.ownBlock]
  · intro e
    have e : g = b := by simpa [Value.ownBlock] using e
    subst e
    rw [hb] at hh
    injection hh with hh
    injection hh with _ h2
    exact ht h2
theorem Aw.low {N b : Nat} {w : World} {v : Value} {l : List At} (h : Aw N w v l) (hb : b < N) : v.ownBlock ≠ some b := fun e => by
  have := (World.ownsRow.lt h.1 b e).1
  omega
theorem Aw.kept {N : Nat} {w w' : World} {v : Value} {l : List At} {row : Option Nat} (h : Aw N w v l) (hg : w.grownBy w' row) (hne : v.ownBlock = none ∨ v.ownBlock ≠ row) : Aw N w' v l := ⟨World.ownsRow.kept h.1 hg hne, h.2⟩
theorem Aw.alloc {N : Nat} {w : World} {v : Value} {l : List At} (h : Aw N w v l) (o : Obj) : Aw N (w.alloc o) v l := ⟨World.ownsRow.alloc h.1 o, h.2⟩
theorem Aw.form {N : Nat} {w : World} {v : Value} {l : List At} (h : Aw N w v l) : ∃ A c, v = .slice A l.length c := by
  rcases h.1.2 with ⟨hv, hl⟩ | ⟨g, cap, cur, hv, _⟩
  · exact ⟨none, 0, by rw [hl]; exact hv⟩
  · exact ⟨_, _, hv⟩

theorem attr_cells_new (w : World) (x : At) : ∀ j u, (acells x)[j]? = some u → (w.alloc (.cells #[.string x.name, .string x.value] 40)).cell? ((⟨w.heap.size, 0, none⟩ : Addr).add j) = some u := fun j u hu => by
  rw [WideShapes.add_plain, Nat.zero_add, World.cell?_alloc_mark]
  match j with
  | 0 => exact hu
  | 1 => exact hu
  | j + 2 => simp [acells] at hu
/-- append of one attribute, in a block of its own, onto attributes of the call's own. -/
theorem app_attr {ops : Array Oper} {rest : List Oper} {o : Oper} {a : Act} {Q : Exit → Act → World → Prop} (w : World) (hgd : o.guard = none) (s x : Operand)
    (ho : o.op = .call { callee := .builtin .append, args := #[s, x], argTypes := #[34, 34] })
    (N : Nat) (v : Value) (l : List At) (y : At) (hs : a.eval s = v) (hown : Aw N w v l) (hy : y.name.size ≤ maxLen) (g : Nat) (hgz : g = w.heap.size) (hx : a.eval x = .slice (some ⟨g, 0, none⟩) 1 1)
    (hl : l.length ≤ 4000000000) (hN : N ≤ w.heap.size)
    (h : ∀ v' w', Aw N w' v' (l ++ [y]) → w.grownBy w' v.ownBlock → wpList Try.prog ops Q rest (a.put o.dst v') w') :
    wpList Try.prog ops Q (o :: rest) a (w.alloc (.cells #[.string y.name, .string y.value] 40)) := by
  subst hgz
  obtain ⟨i0, hi, hz0, hz1, hz2⟩ := info_parts info_attr
  have hown' : Aw N (w.alloc (.cells #[.string y.name, .string y.value] 40)) v l := hown.alloc _
  have hsz : (w.alloc (.cells #[.string y.name, .string y.value] 40)).heap.size = w.heap.size + 1 := by simp
  refine wpList_append_own _ hgd s x 34 ho N 40 i0 _ 2 32 Try.underlying34 hi hz0 hz1 hz2 rfl (by decide) v l.length (l.flatMap acells) hs hown'.1 ⟨w.heap.size, 0, none⟩ 1 1 (acells y) hx rfl (attr_cells_new w y) (by have := acells_one [y]; simpa using this) (by unfold maxLen; omega) (by omega) (by omega) ?_
  intro v' w' ho2 hg2 _
  refine h v' w' ⟨?_, fun z hz => ?_⟩ ((World.grownBy_alloc w _ _).trans hg2)
  · rw [List.length_append, List.flatMap_append]
    simpa using ho2
  · rcases List.mem_append.1 hz with hz | hz
    · exact hown.2 z hz
    · rw [List.mem_singleton.1 hz]; exact hy

end Go.Proofs.Ytdjkeakagmgfgaa.To

namespace Go.Proofs.Ytdjkeakagmgfgaa.Cn
set_option maxRecDepth 100000
set_option linter.unusedVariables false
set_option linter.unusedSimpArgs false
open Go.RowKit Ba Ro
open Co (Cf Cv Sm confV confO attrB12 elementN)
open To (Aw app_attr)
theorem attrs_take (c : Cf) (s : Bool) (e : ByteArray) (l : List At) (k : Nat) {y : At} (h : l.drop k = y :: l.drop (k + 1)) : attrsL c s e (l.take (k + 1)) = attrsL c s e (l.take k) ++ if keepB c s e y = true then [y] else [] := by
  have e1 : l.take (k + 1) = l.take k ++ [y] := by
    rw [List.take_add_one]
    congr 1
    rw [getElem_of_drop h]
    rfl
  unfold attrsL
  rw [e1, List.filter_append, List.filter_cons, List.filter_nil]
theorem keep_yes {c : Cf} {s : Bool} {e : ByteArray} {l : List At} {k : Nat} {y : At} (h : l.drop k = y :: l.drop (k + 1)) (hk : keepB c s e y = true) : attrsL c s e (l.take (k + 1)) = attrsL c s e (l.take k) ++ [y] := by rw [attrs_take c s e l k h, if_pos hk]
theorem keep_no {c : Cf} {s : Bool} {e : ByteArray} {l : List At} {k : Nat} {y : At} (h : l.drop k = y :: l.drop (k + 1)) (hk : keepB c s e y = false) : attrsL c s e (l.take (k + 1)) = attrsL c s e (l.take k) := by rw [attrs_take c s e l k h, if_neg (by rw [hk]; decide), List.append_nil]
theorem attrs_le (c : Cf) (s : Bool) (e : ByteArray) (l : List At) (k : Nat) : (attrsL c s e (l.take k)).length ≤ l.length := Nat.le_trans (List.length_filter_le _ _) (List.length_take_le' _ _)

theorem aw_on {N : Nat} {w w' : World} {v : Value} {l : List At} (h : Aw N w v l) (hb : Below w.heap.size w w') : Aw N w' v l := by
  refine ⟨⟨h.1.1, ?_⟩, h.2⟩
  rcases h.1.2 with hn | ⟨g, cap, cur, hv, hg, hh, rest⟩
  · exact .inl hn
  · refine .inr ⟨g, cap, cur, hv, hg, ?_, rest⟩
    rw [hb.block g (Array.getElem?_eq_some_iff.1 hh).1]
    exact hh
/-- A row and a configuration, each in a box. -/
structure Bb (w : World) (b : Nat) (x : Cw) (c : Cf) (vE vR vA vP : Value) : Prop where
  row : ∀ j, w.cell? ⟨b, j, none⟩ = (cells x)[j]?
  cf : w.rangeAt (b + 1) 0 [.bool c.allow, .bool c.attrsAllow, vE, vR, vA, vP, .bool c.comments, .bool c.dataAttrs]
  lt : b + 1 < w.heap.size
theorem Bb.new (w : World) (x : Cw) (c : Cf) (vE vR vA vP : Value) : Bb ((w.alloc (rowO x)).alloc (confO c vE vR vA vP)) w.heap.size x c vE vR vA vP :=
  ⟨box_kept (below_new _ _), by have := Co.Bx.new (w.alloc (rowO x)) c vE vR vA vP; rwa [World.size_alloc] at this, by simp⟩
theorem Bb.on {w w' : World} {b : Nat} {x : Cw} {c : Cf} {vE vR vA vP : Value} (h : Bb w b x c vE vR vA vP) (hb : Below w.heap.size w w') : Bb w' b x c vE vR vA vP :=
  ⟨fun j => (hb.cell (p := ⟨b, j, none⟩) (by have := h.lt; show b < _; omega)).trans (h.row j), range_keep h.cf fun o => hb.cell (p := ⟨b + 1, o, none⟩) (show b + 1 < _ from h.lt), Nat.lt_of_lt_of_le h.lt hb.size⟩
theorem below_two (w : World) (a b : Obj) : Below w.heap.size w ((w.alloc a).alloc b) := (below_new w a).trans ((below_new _ b).mono (by simp))

set_option maxRecDepth 100000 in
set_option maxHeartbeats 4000000 in
theorem attrs_any (x : Cw) (v : Value) (c : Cf) (s : Bool) (w : World) (hx : Att w w.heap.size x) (hz : Rz.SmallR x.ro) (hc : Cv w w.heap.size v c) (hs : Sm c) (hm : x.ro.attrs.length ≤ 1000000) :
    Calls Try.prog 17 #[rowV x, v, .bool s] w fun r w' => ∃ v', r = .returned v' ∧ Aw w.heap.size w' v' (attrsF c s x.ro) ∧ Below w.heap.size w w' := by
  obtain ⟨vE, vR, vA, vP, pl, rfl, hc⟩ := hc
  obtain ⟨⟨dep, kd, nm, dt, ats⟩, A, cc⟩ := x
  obtain ⟨hz1, _, hz3⟩ := hz
  have hxc := hx.1; have hxm := hx.2.2.1
  unfold maxLen at hxm
  simp only at hxc hxm hm hz1 hz3
  obtain ⟨w0, hw0⟩ : ∃ w0, (w.alloc (rowO ⟨⟨dep, kd, nm, dt, ats⟩, A, cc⟩)).alloc (confO c vE vR vA vP) = w0 := ⟨_, rfl⟩
  have hb0 : Below w.heap.size w w0 := hw0 ▸ below_two w _ _
  have hbb : Bb w0 w.heap.size ⟨⟨dep, kd, nm, dt, ats⟩, A, cc⟩ c vE vR vA vP := hw0 ▸ Bb.new w _ c vE vR vA vP
  have HBX := Lib.hid (fun wr (hb : Below w0.heap.size w0 wr) => show wr.cell? ⟨w.heap.size, 2, none⟩ = some (.string nm) ∧ wr.cell? ⟨w.heap.size, 4, none⟩ = some (.slice A ats.length cc) ∧ wr.rangeAt (w.heap.size + 1) 0 _ from ⟨(hbb.on hb).row 2, (hbb.on hb).row 4, (hbb.on hb).cf⟩)
  have HCV := Lib.hid (fun wr (hb : Below w0.heap.size w0 wr) => show Cv wr wr.heap.size (confV c vE vR vA vP) c from ⟨_, _, _, _, _, rfl, (hc.on hb0).on hb⟩)
  have HRA := Lib.hid (fun wr (hb : Below w0.heap.size w0 wr) => show Ra wr w.heap.size A ats from (hx.2.2.2.1.below hb0).below hb hb0.size)
  have HW := Lib.hid hw0; have HB0 := Lib.hid hb0; have HSM := Lib.hid hs; have HSH := Lib.hid hx.2.2.2.2; have HZ := Lib.hid hz3
  have hsz0 := hb0.size
  have hlt0 := hbb.lt
  clear hc hx hw0 hb0 hbb hs hz3
  go_enter Try.func17, Try.ntmps17
  go_upto_region 1 with (fail)
  rw [HW.out]
  clear HW
  obtain ⟨g2, g4, g5⟩ := HBX.out w0 (Below.refl _ _)
  go_wp2
  clear g2 g4 g5
  go_loopw [7, 13] (fun u' i wr => ∃ (k : Nat) (u : Value), i = .int .i64 k ∧ u = u' ∧ k ≤ ats.length ∧ Aw w0.heap.size wr u (attrsL c s nm (ats.take k)) ∧ Below w0.heap.size w0 wr) (fun _ i _ => ats.length - (intOf i).toNat)
  case atStart => exact ⟨0, _, rfl, rfl, by omega, Aw.nil _ _, Below.refl _ _⟩
  case round =>
    obtain ⟨k, u, rfl, rfl, hk, ho, hbel⟩ := hrel
    have hsz := hbel.size
    by_cases hp : k < ats.length
    · obtain ⟨b, off, y, rfl, hb, hd, hy, hym⟩ := (HRA.out wr hbel).at_ k hp
      obtain ⟨f1, f2⟩ := range2 hy
      obtain ⟨hy1, hy2⟩ := HZ.out y hym
      have hy3 := HSH.out y hym
      obtain ⟨w1, hw1⟩ : ∃ w1, wr.alloc (.cells #[.string y.name, .string y.value] 40) = w1 := ⟨_, rfl⟩
      have hb1 : Below wr.heap.size wr w1 := hw1 ▸ below_new wr _
      have hbx1 : Below w0.heap.size w0 w1 := hbel.trans (hb1.mono hsz)
      have HAB := Lib.hid (fun wx (hb : Below w1.heap.size w1 wx) => show wx.cell? ⟨wr.heap.size, 0, none⟩ = some (.string y.name) ∧ wx.cell? ⟨wr.heap.size, 1, none⟩ = some (.string y.value) from by
        have h0 : wr.heap.size < w1.heap.size := by rw [← hw1]; simp
        have e : ∀ j, w1.cell? ⟨wr.heap.size, j, none⟩ = (acells y)[j]? := fun j => by rw [← hw1, World.cell?_alloc_mark]; simp [acells]
        exact ⟨(hb.cell (p := ⟨_, 0, none⟩) h0).trans (e 0), (hb.cell (p := ⟨_, 1, none⟩) h0).trans (e 1)⟩)
      have how1 : Aw w0.heap.size w1 u (attrsL c s nm (ats.take k)) := hw1 ▸ ho.alloc _
      have hle := attrs_le c s nm ats k
      have HO := Lib.hid how1; have HD := Lib.hid hd; have HB1 := Lib.hid hbx1; have HBL := Lib.hid hbel; have HS3 := Lib.hid hy3; have HE1 := Lib.hid hw1
      have HBN := Lib.hid hb1
      clear ho hd hbx1 hbel hy hy3 hym how1 hb1 hw1
      obtain ⟨q1, hq1⟩ : ∃ q, attrB12 c nm y.name = q := ⟨_, rfl⟩
      obtain ⟨q2, hq2⟩ : ∃ q, Rk.attrB nm y = q := ⟨_, rfl⟩
      have HQ1 := Lib.hid hq1; have HQ2 := Lib.hid hq2
      have HKB : Hid (keepB c s nm y = (q1 && !(s && q2))) := Lib.hid (by unfold keepB; rw [hq1, hq2])
      clear hq1 hq2
      go_upto_region 5 with (fail)
      rw [HE1.out]
      obtain ⟨g2, g4, g5⟩ := HBX.out w1 HB1.out
      obtain ⟨e0, e1⟩ := HAB.out w1 (Below.refl _ _)
      cases q1 with
      | false =>
        have hkb : keepB c s nm y = false := HKB.out
        go_wp2_with (first | (show wpList _ _ _ (⟨_, Op.load 26 (.tmp 4), _, _, _, _⟩ :: _) _ _; refine wpList_load_mid rfl 26 (.tmp 4) rfl (w.heap.size + 1) 0 rfl _ _ g5 Try.underlying26 rfl Co.size_conf ?_) | (go_at_call 35; refine (Co.attr1 _ c nm y.name _ _ (HCV.out _ HB1.out) HSM.out hy1 HQ1.out).mono ?_; rintro r w3 ⟨rfl, hb3⟩; have hbx3 := HB1.out.trans (hb3.mono HB1.out.size); have HB3 := Lib.hid hb3; have HX3 := Lib.hid hbx3; clear g2 g4 g5 e0 e1 hb3 hbx3; obtain ⟨g2, g4, g5⟩ := HBX.out w3 HX3.out; obtain ⟨e0, e1⟩ := HAB.out w3 HB3.out) | fail)
        go_roundw
        case rel => exact ⟨k + 1, _, by go_num, rfl, by omega, by rw [keep_no HD.out hkb]; exact aw_on HO.out HB3.out, HX3.out⟩
        case measure => simp [intOf]; omega
      | true =>
        cases s with
        | false =>
          have hkb : keepB c false nm y = true := HKB.out
          have HOW := Lib.hid (fun wx (hb : Below w1.heap.size w1 wx) => aw_on HO.out hb)
          go_upto_region 6 with (first | (show wpList _ _ _ (⟨_, Op.load 26 (.tmp 4), _, _, _, _⟩ :: _) _ _; refine wpList_load_mid rfl 26 (.tmp 4) rfl (w.heap.size + 1) 0 rfl _ _ g5 Try.underlying26 rfl Co.size_conf ?_) | (go_at_call 35; refine (Co.attr1 _ c nm y.name _ _ (HCV.out _ HB1.out) HSM.out hy1 HQ1.out).mono ?_; rintro r w3 ⟨rfl, hb3⟩; have hbx3 := HB1.out.trans (hb3.mono HB1.out.size); have HB3 := Lib.hid hb3; have HX3 := Lib.hid hbx3; clear g2 g4 g5 e0 e1 hb3 hbx3; obtain ⟨g2, g4, g5⟩ := HBX.out w3 HX3.out; obtain ⟨e0, e1⟩ := HAB.out w3 HB3.out) | fail)
          have how := HOW.out _ HB3.out
          clear HOW; have HOW := Lib.hid how
          clear how
          go_wp2_with (first | (at_builtin; refine app_attr _ rfl (.tmp 33) (.tmp 35) rfl w0.heap.size u _ y rfl HOW.out HS3.out _ rfl rfl (by omega) (by have := HX3.out.size; omega) ?_; intro v6 w6 ho6 hg6) | fail)
          go_roundw
          case rel =>
            refine ⟨k + 1, _, by go_num, rfl, by omega, by rw [keep_yes HD.out hkb]; exact ho6, ?_⟩
            exact HX3.out.grown hg6 HX3.out.size fun q hq => (World.ownsRow.lt HOW.out.1 q hq).1
          case measure => simp [intOf]; omega
        | true =>
          cases q2 with
          | true =>
            have hkb : keepB c true nm y = false := HKB.out
            go_wp2_with (first | (show wpList _ _ _ (⟨_, Op.load 26 (.tmp 4), _, _, _, _⟩ :: _) _ _; refine wpList_load_mid rfl 26 (.tmp 4) rfl (w.heap.size + 1) 0 rfl _ _ g5 Try.underlying26 rfl Co.size_conf ?_) | (go_at_call 35; refine (Co.attr1 _ c nm y.name _ _ (HCV.out _ HB1.out) HSM.out hy1 HQ1.out).mono ?_; rintro r w3 ⟨rfl, hb3⟩; have hbx3 := HB1.out.trans (hb3.mono HB1.out.size); have HB3 := Lib.hid hb3; have HX3 := Lib.hid hbx3; clear g2 g4 g5 e0 e1 hb3 hbx3; obtain ⟨g2, g4, g5⟩ := HBX.out w3 HX3.out; obtain ⟨e0, e1⟩ := HAB.out w3 HB3.out) | (go_at_call 36; refine (Rk.attr1 nm y hz1 hy1 hy2 _ _ HQ2.out).mono ?_; rintro r w4 ⟨rfl, hb4⟩; have hb34 := HB3.out.trans (hb4.mono HB3.out.size); have hbx4 := HX3.out.trans (hb4.mono HX3.out.size); have HB4 := Lib.hid hb34; have HX4 := Lib.hid hbx4; clear g2 g4 g5 e0 e1 hb4 hbx4 hb34; obtain ⟨g2, g4, g5⟩ := HBX.out w4 HX4.out; obtain ⟨e0, e1⟩ := HAB.out w4 HB4.out) | fail)
            go_roundw
            case rel => exact ⟨k + 1, _, by go_num, rfl, by omega, by rw [keep_no HD.out hkb]; exact aw_on HO.out HB4.out, HX4.out⟩
            case measure => simp [intOf]; omega
          | false =>
            have hkb : keepB c true nm y = true := HKB.out
            have HOW := Lib.hid (fun wx (hb : Below w1.heap.size w1 wx) => aw_on HO.out hb)
            go_upto_region 6 with (first | (show wpList _ _ _ (⟨_, Op.load 26 (.tmp 4), _, _, _, _⟩ :: _) _ _; refine wpList_load_mid rfl 26 (.tmp 4) rfl (w.heap.size + 1) 0 rfl _ _ g5 Try.underlying26 rfl Co.size_conf ?_) | (go_at_call 35; refine (Co.attr1 _ c nm y.name _ _ (HCV.out _ HB1.out) HSM.out hy1 HQ1.out).mono ?_; rintro r w3 ⟨rfl, hb3⟩; have hbx3 := HB1.out.trans (hb3.mono HB1.out.size); have HB3 := Lib.hid hb3; have HX3 := Lib.hid hbx3; clear g2 g4 g5 e0 e1 hb3 hbx3; obtain ⟨g2, g4, g5⟩ := HBX.out w3 HX3.out; obtain ⟨e0, e1⟩ := HAB.out w3 HB3.out) | (go_at_call 36; refine (Rk.attr1 nm y hz1 hy1 hy2 _ _ HQ2.out).mono ?_; rintro r w4 ⟨rfl, hb4⟩; have hb34 := HB3.out.trans (hb4.mono HB3.out.size); have hbx4 := HX3.out.trans (hb4.mono HX3.out.size); have HB4 := Lib.hid hb34; have HX4 := Lib.hid hbx4; clear g2 g4 g5 e0 e1 hb4 hbx4 hb34; obtain ⟨g2, g4, g5⟩ := HBX.out w4 HX4.out; obtain ⟨e0, e1⟩ := HAB.out w4 HB4.out) | fail)
            have how := HOW.out _ HB4.out
            clear HOW; have HOW := Lib.hid how
            clear how
            go_wp2_with (first | (at_builtin; refine app_attr _ rfl (.tmp 33) (.tmp 35) rfl w0.heap.size u _ y rfl HOW.out HS3.out _ rfl rfl (by omega) (by have := HX4.out.size; omega) ?_; intro v6 w6 ho6 hg6) | fail)
            go_roundw
            case rel =>
              refine ⟨k + 1, _, by go_num, rfl, by omega, by rw [keep_yes HD.out hkb]; exact ho6, ?_⟩
              exact HX4.out.grown hg6 HX4.out.size fun q hq => (World.ownsRow.lt HOW.out.1 q hq).1
            case measure => simp [intOf]; omega
    · have e : ats.take k = ats := List.take_of_length_le (by omega)
      rw [e] at ho
      have HO := Lib.hid ho; have HBL := Lib.hid hbel
      clear ho hbel
      go_wp2
      go_ret
      exact ⟨_, rfl, ⟨World.ownsRow.mono HO.out.1 hsz0, HO.out.2⟩, HB0.out.trans (HBL.out.mono hsz0)⟩

end Go.Proofs.Ytdjkeakagmgfgaa.Cn

namespace Go.Proofs.Ytdjkeakagmgfgaa.Cn
set_option maxRecDepth 100000
set_option linter.unusedVariables false
set_option linter.unusedSimpArgs false
open Go.RowKit Ba Ro
open Co (Cf Cv Sm confV confO attrB12 elementN bel_eq12)
open Rk (neverB)
set_option maxRecDepth 100000 in
set_option maxHeartbeats 2000000 in
theorem fate_any (x : Cw) (v : Value) (c : Cf) (s : Bool) (w : World) (q : Nat) (hc : Cv w w.heap.size v c) (hs : Sm c) (hq : fateN c s x.ro = q) :
    Calls Try.prog 65 #[rowV x, v, .bool s] w fun r w' => r = .returned (.int .i64 q) ∧ Below w.heap.size w w' := by
  obtain ⟨vE, vR, vA, vP, pl, rfl, hc⟩ := hc
  obtain ⟨⟨dep, kd, nm, dt, ats⟩, A, cc⟩ := x
  obtain ⟨al, aa, els, reps, cats, per, cm, da⟩ := c
  obtain ⟨w0, hw0⟩ : ∃ w0, (w.alloc (rowO ⟨⟨dep, kd, nm, dt, ats⟩, A, cc⟩)).alloc (confO ⟨al, aa, els, reps, cats, per, cm, da⟩ vE vR vA vP) = w0 := ⟨_, rfl⟩
  have hb0 : Below w.heap.size w w0 := hw0 ▸ below_two w _ _
  have hbb : Bb w0 w.heap.size ⟨⟨dep, kd, nm, dt, ats⟩, A, cc⟩ ⟨al, aa, els, reps, cats, per, cm, da⟩ vE vR vA vP := hw0 ▸ Bb.new w _ _ vE vR vA vP
  have HEL := Lib.hid (fun q (hq : elementN ⟨al, aa, els, reps, cats, per, cm, da⟩ nm = q) => Co.element1 (confV ⟨al, aa, els, reps, cats, per, cm, da⟩ vE vR vA vP) _ nm w0 q ⟨_, _, _, _, _, rfl, hc.on hb0⟩ hs hq)
  have HCF := Lib.hid hbb.cf
  have HW := Lib.hid hw0; have HB0 := Lib.hid hb0
  have g1 := hbb.row 1; have g2 := hbb.row 2
  simp only [cells, List.getElem?_cons_zero, List.getElem?_cons_succ] at g1 g2
  have c6 : w0.cell? ⟨w.heap.size + 1, 6, none⟩ = some (.bool cm) := hbb.cf 6 _ rfl
  clear hc hs hw0 hb0 hbb
  unfold fateN at hq
  simp only at hq
  go_enter Try.func65, Try.ntmps65
  go_upto_region 1 with (fail)
  rw [HW.out]
  clear HW
  by_cases h1 : kd = 1
  · rw [if_pos h1] at hq
    subst hq
    have k1 : (kd == 1) = true := by simpa using h1
    go_wp2
    go_ret
    exact ⟨rfl, HB0.out⟩
  rw [if_neg h1] at hq
  have k1 : (kd == 1) = false := by simpa using h1
  by_cases h2 : kd = 2
  · rw [if_pos h2] at hq
    have k2 : (kd == 2) = true := by simpa using h2
    cases cm with
    | true =>
      rw [if_pos rfl] at hq
      subst hq
      go_wp2
      go_ret
      exact ⟨rfl, HB0.out⟩
    | false =>
      rw [if_neg (by decide)] at hq
      subst hq
      go_wp2
      go_ret
      exact ⟨rfl, HB0.out⟩
  rw [if_neg h2] at hq
  have k2 : (kd == 2) = false := by simpa using h2
  obtain ⟨nv, hnv⟩ : ∃ b, neverB nm = b := ⟨_, rfl⟩
  rw [hnv] at hq
  have HNV := Lib.hid hnv
  clear hnv
  cases s with
  | false =>
    have HQ := Lib.hid (show elementN _ nm = q from hq)
    clear hq
    go_wp2_with (first
      | (show wpList _ _ _ (⟨_, Op.load 26 (.tmp 4), _, _, _, _⟩ :: _) _ _; refine wpList_load_mid rfl 26 (.tmp 4) rfl (w.heap.size + 1) 0 rfl _ _ HCF.out Try.underlying26 rfl Co.size_conf ?_)
      | (go_at_call 26; refine (HEL.out q HQ.out).mono ?_; rintro r w3 ⟨rfl, hb3⟩)
      | fail)
    go_ret
    exact ⟨rfl, HB0.out.trans (hb3.mono HB0.out.size)⟩
  | true =>
    cases nv with
    | true =>
      have hq : 1 = q := hq
      subst hq
      go_wp2_with (first
        | (go_at_call 75; refine (Rk.element1 nm _ true HNV.out).mono ?_; rintro r w3 ⟨rfl, rfl⟩)
        | fail)
      go_ret
      exact ⟨rfl, HB0.out⟩
    | false =>
      have HQ := Lib.hid (show elementN _ nm = q from hq)
      clear hq
      go_wp2_with (first
        | (show wpList _ _ _ (⟨_, Op.load 26 (.tmp 4), _, _, _, _⟩ :: _) _ _; refine wpList_load_mid rfl 26 (.tmp 4) rfl (w.heap.size + 1) 0 rfl _ _ HCF.out Try.underlying26 rfl Co.size_conf ?_)
        | (go_at_call 75; refine (Rk.element1 nm _ false HNV.out).mono ?_; rintro r w3 ⟨rfl, rfl⟩)
        | (go_at_call 26; refine (HEL.out q HQ.out).mono ?_; rintro r w3 ⟨rfl, hb3⟩)
        | fail)
      go_ret
      exact ⟨rfl, HB0.out.trans (hb3.mono HB0.out.size)⟩

end Go.Proofs.Ytdjkeakagmgfgaa.Cn

namespace Go.Proofs.Ytdjkeakagmgfgaa.Cn
set_option linter.unusedVariables false
set_option linter.unusedSimpArgs false
open Go.RowKit Ba Ro
/-- Rows of the call's own, their attributes too. -/
def Od (N : Nat) (w : World) (v : Value) (l : List Cw) : Prop := w.ownsRow N 36 5 v l.length (l.flatMap cells) ∧ ∀ x ∈ l, Fr N w x
theorem Od.ow {N : Nat} {w : World} {v : Value} {l : List Cw} (h : Od N w v l) : Ow N w v l := ⟨h.1, fun x hx => ⟨(h.2 x hx).att, (h.2 x hx).ap⟩⟩
theorem Od.nil (N : Nat) (w : World) : Od N w (.slice none 0 0) [] := ⟨World.ownsRow_nil w N _ 5, fun _ h => by simp at h⟩
theorem Od.made (w : World) : Od w.heap.size (w.alloc (.cells #[] 36)) (.slice (some ⟨w.heap.size, 0, none⟩) 0 0) [] :=
  ⟨World.ownsRow_made w #[] 0 (Nat.le_refl _) (Nat.zero_le _) rfl, fun _ h => by simp at h⟩
theorem Od.grown {N b : Nat} {w w' : World} {v : Value} {l : List Cw} (h : Od N w v l) (hg : w.grownBy w' (some b)) (hb : b < N) : Od N w' v l :=
  ⟨Co.row_elder h.1 hg (fun q hq => by injection hq with hq; omega), fun x hx => ⟨Co.row_elder (h.2 x hx).1 hg (fun q hq => by injection hq with hq; omega), (h.2 x hx).2⟩⟩
theorem Od.below {N : Nat} {w w' : World} {v : Value} {l : List Cw} (h : Od N w v l) (hb : Below w.heap.size w w') : Od N w' v l := ⟨(h.ow.below hb).1, fun x hx => (h.2 x hx).below hb⟩
theorem Od.mono {N M : Nat} {w : World} {v : Value} {l : List Cw} (h : Od N w v l) (hN : M ≤ N) : Od M w v l := ⟨World.ownsRow.mono h.1 hN, fun x hx => ⟨World.ownsRow.mono (h.2 x hx).1 hN, (h.2 x hx).2⟩⟩
theorem below_grown {w w1 : World} (b : Nat) (hb : Below w.heap.size w w1) : w.grownBy w1 (some b) := ⟨hb.os, hb.tape, hb.output, hb.size, fun k hk _ => hb.block k hk⟩

theorem rr_on {w w' : World} {A : Option Addr} {l : List Cw} (h : Rr w w.heap.size A l) (hb : Below w.heap.size w w') : Rr w' w'.heap.size A l := (h.below hb).more hb.size
/-- A block of this type that holds these. -/
def Hv (t : TypeId) (w : World) (g : Nat) (cs : Array Value) : Prop := w.heap[g]? = some (.cells cs t)
theorem Hv.new (t : TypeId) (w : World) (cs : Array Value) : Hv t (w.alloc (.cells cs t)) w.heap.size cs := heap_alloc_new w _
theorem Hv.keep {t : TypeId} {w w' : World} {g : Nat} {cs : Array Value} (h : Hv t w g cs) (hb : w'.heap[g]? = w.heap[g]?) : Hv t w' g cs := hb.trans h
theorem Hv.lt {t : TypeId} {w : World} {g : Nat} {cs : Array Value} (h : Hv t w g cs) : g < w.heap.size := (Array.getElem?_eq_some_iff.1 h).1
theorem Hv.on {t : TypeId} {w w' : World} {g : Nat} {cs : Array Value} (h : Hv t w g cs) (hb : Below w.heap.size w w') : Hv t w' g cs := h.keep (hb.block g h.lt)
theorem Hv.set {t : TypeId} {w : World} {g : Nat} {cs : Array Value} (h : Hv t w g cs) (j : Nat) (u : Value) : Hv t (w.setCell ⟨g, j, none⟩ u) g (cs.setIfInBounds j u) := by
  unfold Hv at h ⊢
  simp [World.setCell, Array.getElem?_modify, h]
theorem Hv.other {t : TypeId} {w : World} {g b : Nat} {cs : Array Value} (h : Hv t w g cs) (j : Nat) (u : Value) (hne : g ≠ b) : Hv t (w.setCell ⟨b, j, none⟩ u) g cs := h.keep (Below.heap_setCell _ _ _ _ hne)
theorem Hv.cell {t : TypeId} {w : World} {g : Nat} {cs : Array Value} (h : Hv t w g cs) (j : Nat) (u : Value) (hu : cs[j]? = some u) : w.cell? ⟨g, j, none⟩ = some u := by
  rw [cell_of_row w g j _ _ _ h]
  exact hu
theorem Hv.f {t : TypeId} {w : World} {g : Nat} {cs : Array Value} (h : Hv t w g cs) (j : Nat) : w.frozen? ⟨g, j, none⟩ = false := by
  unfold Hv at h
  simp [World.frozen?, h]
theorem Hv.there {t : TypeId} {w : World} {g : Nat} {cs : Array Value} (h : Hv t w g cs) (n : Nat) (hn : n = cs.size) : w.there g 0 n := fun j hj => by
  rw [Nat.zero_add]
  exact ⟨by rw [h.cell j _ (Array.getElem?_eq_getElem (hn ▸ hj))]; rfl, h.f j⟩
theorem Hv.range {t : TypeId} {w : World} {g : Nat} {cs : Array Value} (h : Hv t w g cs) : w.rangeAt g 0 cs.toList := fun j u hu => by
  rw [Nat.zero_add]
  exact h.cell j u (by rwa [Array.getElem?_toList] at hu)
/-- An array of 61 numbers that reads as D. -/
def Db (w : World) (b : Nat) (D : Int → Int) : Prop := ∃ cs, Hv 76 w b cs ∧ ∀ j : Nat, j < 61 → cs[j]? = some (.int .i64 (D j))
theorem Db.keep {w w' : World} {b : Nat} {D : Int → Int} (h : Db w b D) (hb : w'.heap[b]? = w.heap[b]?) : Db w' b D := by
  obtain ⟨cs, h, hc⟩ := h
  exact ⟨cs, h.keep hb, hc⟩
theorem Db.lt {w : World} {b : Nat} {D : Int → Int} (h : Db w b D) : b < w.heap.size := by
  obtain ⟨cs, h, _⟩ := h
  exact h.lt
theorem Db.on {w w' : World} {b : Nat} {D : Int → Int} (h : Db w b D) (hb : Below w.heap.size w w') : Db w' b D := h.keep (hb.block b h.lt)
theorem Db.cell {w : World} {b : Nat} {D : Int → Int} (h : Db w b D) (j : Nat) (hj : j < 61) : w.cell? ⟨b, j, none⟩ = some (.int .i64 (D j)) := by
  obtain ⟨cs, h, hc⟩ := h
  exact h.cell j _ (hc j hj)
theorem Db.f {w : World} {b : Nat} {D : Int → Int} (h : Db w b D) (j : Nat) : w.frozen? ⟨b, j, none⟩ = false := by
  obtain ⟨cs, h, hc⟩ := h
  exact h.f j
theorem Db.set {w : World} {b : Nat} {D : Int → Int} (h : Db w b D) (j : Nat) (v : Int) : Db (w.setCell ⟨b, j, none⟩ (.int .i64 v)) b (put_ D j v) := by
  obtain ⟨cs, h, hc⟩ := h
  refine ⟨_, h.set j (.int .i64 v), fun i hi => ?_⟩
  have hs : 61 ≤ cs.size := by
    have := (Array.getElem?_eq_some_iff.1 (hc 60 (by omega))).1
    omega
  rw [Array.getElem?_setIfInBounds]
  unfold put_
  by_cases e : j = i
  · subst e
    rw [if_pos rfl, if_pos (by omega), if_pos rfl]
  · rw [if_neg e, if_neg (by omega)]
    exact hc i hi

end Go.Proofs.Ytdjkeakagmgfgaa.Cn

namespace Go.Proofs.Ytdjkeakagmgfgaa.Cn
set_option maxRecDepth 100000
set_option linter.unusedVariables false
set_option linter.unusedSimpArgs false
open Go.RowKit Ba Ro
open Co (Cf Cv Sm confV confO attrB12 elementN bel_eq12)
open To (Aw app_attr)
theorem below_of_grown {w w' : World} {b : Nat} (h : w.grownBy w' (some b)) (hs : b ≤ w.heap.size) : Below b w w' := ⟨h.os, h.tape, h.output, h.size, fun k hk => h.block k (by omega) (fun e => by injection e with e; omega)⟩
theorem db_zero (w : World) (cs : Array Value) (h : cs = Array.replicate 61 (.int .i64 0)) : Db (w.alloc (.cells cs 76)) w.heap.size (fun _ => 0) :=
  ⟨cs, Hv.new _ _ _, fun j hj => by rw [h, Array.getElem?_replicate, if_pos hj]⟩
theorem step_gone {g : Ro → Nat} {f : Ro → List At} {l : List Ro} {k : Nat} {x : Ro} {r : List Ro} (h : l.drop k = x :: r) (hr : r = l.drop (k + 1)) (hg : g x = 1) (D : Int → Int) : flt g f D none (l.drop k) = flt g f D none (l.drop (endOf l k)) := by
  have hd : dep l k = x.depth := dep_at (getElem_of_drop h)
  rw [h, flt_cons, if_neg (by rw [under_none]; decide), if_pos hg, flt_skip, hr]
  congr 1
  rw [List.drop_drop]
  congr 1
  unfold endOf below more
  rw [hd, show ((k : Int) + 1).toNat = k + 1 by omega]
theorem step_keep {g : Ro → Nat} {f : Ro → List At} {l : List Ro} {k : Nat} {x : Ro} (h : l.drop k = x :: l.drop (k + 1)) (hg : g x = 0) (D : Int → Int) : flt g f D none (l.drop k) = ⟨D x.depth, x.kind, x.name, x.data, f x⟩ :: flt g f (put_ D (x.depth + 1) (D x.depth + 1)) none (l.drop (k + 1)) := by
  rw [h, flt_cons, if_neg (by rw [under_none]; decide), if_neg (by omega), if_pos hg]
theorem step_open {g : Ro → Nat} {f : Ro → List At} {l : List Ro} {k : Nat} {x : Ro} (h : l.drop k = x :: l.drop (k + 1)) (hg0 : g x ≠ 0) (hg1 : g x ≠ 1) (D : Int → Int) : flt g f D none (l.drop k) = flt g f (put_ D (x.depth + 1) (D x.depth)) none (l.drop (k + 1)) := by
  rw [h, flt_cons, if_neg (by rw [under_none]; decide), if_neg hg1, if_neg hg0]
theorem put_twice (D : Int → Int) (k a b : Int) : put_ (put_ D k a) k b = put_ D k b := by
  funext j
  unfold put_
  split <;> rfl
theorem put_at (D : Int → Int) (k a : Int) : put_ D k a k = a := by unfold put_; rw [if_pos rfl]
theorem put_le {D : Int → Int} {n : Nat} {k a : Int} (h : ∀ j, 0 ≤ D j ∧ D j ≤ n) (h0 : 0 ≤ a) (h1 : a ≤ n + 1) : ∀ j, 0 ≤ put_ D k a j ∧ put_ D k a j ≤ (n + 1 : Nat) := fun j => by
  unfold put_
  split
  · exact ⟨h0, by omega⟩
  · have := h j; omega

set_option maxRecDepth 100000 in
set_option maxHeartbeats 16000000 in
theorem filtered_any (A0 : Option Addr) (c0 : Nat) (l : List Cw) (v : Value) (c : Cf) (s : Bool) (w : World) (hr : Rr w w.heap.size A0 l) (hlc : l.length ≤ c0) (hcm : c0 ≤ maxLen) (hz : Rz.Small (ros l)) (hf : Few (ros l)) (hc : Cv w w.heap.size v c) (hs : Sm c) (hck : check (ros l) = 0) :
    Calls Try.prog 34 #[.slice A0 l.length c0, v, .bool s] w fun r w' => ∃ v' l', r = .returned v' ∧ Od w.heap.size w' v' l' ∧ ros l' = keptL c s (ros l) ∧ Below w.heap.size w w' := by
  obtain ⟨vE, vR, vA, vP, pl, rfl, hc⟩ := hc
  obtain ⟨hex, hrt⟩ := check_parts hck
  have hlen : l.length ≤ 4096 := by
    have hn : ¬ exceeds (ros l) 4096 60 = true := by rw [hex]; decide
    rw [exceeds_iff] at hn
    rw [← len_ros]
    omega
  have hdeep : ∀ x ∈ ros l, 0 ≤ x.depth ∧ x.depth < 60 := fun x hx => by
    have hn : ¬ exceeds (ros l) 4096 60 = true := by rw [hex]; decide
    rw [exceeds_iff] at hn
    exact ⟨(fo_right hrt).1 x hx, Int.not_le.1 fun h => hn (.inr ⟨x, hx, h⟩)⟩
  obtain ⟨w1, hw1⟩ : ∃ w1, w.alloc (confO c vE vR vA vP) = w1 := ⟨_, rfl⟩
  have hb1 : Below w.heap.size w w1 := hw1 ▸ below_new w _
  have hbx : Co.Bx w1 w.heap.size c vE vR vA vP := hw1 ▸ Co.Bx.new w c vE vR vA vP
  have hz1 : w1.heap.size = w.heap.size + 1 := by rw [← hw1]; simp
  have HW1 := Lib.hid hw1; have HCK := Lib.hid hck; have HRT := Lib.hid hrt; have HZ := Lib.hid hz; have HF := Lib.hid hf; have HDP := Lib.hid hdeep; have HR := Lib.hid hr; have HSM := Lib.hid hs; have HCP := Lib.hid hc
  have HB1 := Lib.hid hb1; have HX1 := Lib.hid hbx; have HZ1 := Lib.hid hz1
  clear hw1 hck hrt hz hf hex hdeep hr hs hc hb1 hbx
  go_enter Try.func34, Try.ntmps34
  go_upto_region 1 with (fail)
  rw [HW1.out]
  clear HW1
  go_step3
  go_wp2
  go_step3
  go_wp2
  clear hz1
  go_loopg [7, 9] l.length (fun g u' i wr => ∃ (k : Nat) (u : Value) (acc : List Cw) (D : Int → Int), k + g = l.length ∧ i = .int .i64 k ∧ u = u' ∧ acc.length ≤ k ∧ Od (w.heap.size + 2) wr u acc ∧ Db wr (w.heap.size + 1) D ∧ Hid (∀ j, 0 ≤ D j ∧ D j ≤ k) ∧ Co.Bx wr w.heap.size c vE vR vA vP ∧ Below w.heap.size w wr ∧ w.heap.size + 2 ≤ wr.heap.size ∧ Hid (ros acc ++ flt (fateN c s) (attrsF c s) D none ((ros l).drop k) = keptL c s (ros l)))
  case atStart =>
    refine ⟨0, _, [], fun _ => 0, by omega, rfl, rfl, Nat.le_refl _, Od.nil _ _, by rw [← HZ1.out]; exact db_zero w1 _ rfl, Lib.hid fun j => ⟨Int.le_refl _, Int.le_refl _⟩, HX1.out.below (below_new w1 _) (by have := HZ1.out; omega), HB1.out.trans ((below_new w1 _).mono HB1.out.size), by simp; have := HZ1.out; omega, rfl⟩
  case round =>
    obtain ⟨k, u, acc, D, hkg, rfl, rfl, hal, hod, hdb, hD, hbx, hbel, hN, hros⟩ := hrel
    obtain ⟨G, rfl⟩ : ∃ G, G = gk := ⟨_, rfl⟩
    obtain ⟨w5, rfl⟩ : ∃ w5, w5 = wr := ⟨_, rfl⟩
    by_cases hp : k < l.length
    · have HOD := Lib.hid hod; have HDB := Lib.hid hdb; have HBX := Lib.hid hbx; have HBL := Lib.hid hbel
      clear hod hdb hbx hbel
      go_wp2
      go_loopg [9] (l.length - k) (fun g2 i wi => ∃ k2 : Nat, k2 + g2 = l.length ∧ i = .int .i64 k2 ∧ k2 < l.length ∧ k ≤ k2 ∧ Below w5.heap.size w5 wi ∧ Hid (flt (fateN c s) (attrsF c s) D none ((ros l).drop k2) = flt (fateN c s) (attrsF c s) D none ((ros l).drop k)))
      case atStart => exact ⟨k, by omega, rfl, hp, Nat.le_refl _, Below.refl _ _, rfl⟩
      case round =>
        obtain ⟨k2, hkg2, rfl, hp2, hkk, hbi, hfl⟩ := hrel
        have hbI : Below w.heap.size w wr := HBL.out.trans (hbi.mono HBL.out.size)
        obtain ⟨b, off, x, rfl, hb, hdx, hxr, hxa, hxm⟩ := (HR.out.below hbI).at_ k2 hp2
        have hxR : x.ro ∈ ros l := List.mem_map_of_mem hxm
        have hdr : (ros l).drop k2 = x.ro :: (ros l).drop (k2 + 1) := by rw [ros_drop, hdx, ros_cons, ← ros_drop]
        obtain ⟨hd0, hd1⟩ := HDP.out _ hxR
        have hzx := HZ.out _ hxR
        have hfx := HF.out _ hxR
        obtain ⟨⟨dep, kd, nm, dt, ats⟩, A, cc⟩ := x
        simp only at hd0 hd1 hdr hxR hfx hxr
        obtain ⟨d, rfl⟩ : ∃ d : Nat, dep = d := ⟨dep.toNat, by omega⟩
        have hcc := hxa.1; have hcx := hxa.2.2.1
        unfold maxLen at hcx
        simp only at hcc hcx
        have hd60 : d < 60 := by omega
        have hsi := hbi.size
        have HXR := Lib.hid (fun wx (hb' : Below wr.heap.size wr wx) => show wx.rangeAt b (off + k2 * 5) _ from range_keep hxr fun o => hb'.cell (p := ⟨b, o, none⟩) (show b < wr.heap.size by omega))
        have HXA := Lib.hid (fun wx (hb' : Below w.heap.size w wx) => ((HR.out.2 _ hxm).below hb').more hb'.size)
        have HCV := Lib.hid (fun wx (hb' : Below wr.heap.size wr wx) => show Cv wx wx.heap.size (confV c vE vR vA vP) c from ⟨_, _, _, _, _, rfl, (HCP.out.on hbI).on hb'⟩)
        have HCB := Lib.hid (fun wx (hb' : Below wr.heap.size wr wx) => show Co.Bx wx w.heap.size c vE vR vA vP from (HBX.out.below hbi (by omega)).below hb' (by omega))
        have HBS := Lib.hid (fun wx (hb' : Below wr.heap.size wr wx) => show (wx.cell? ⟨b, off + k2 * 5, none⟩ = some (.int .i64 (d : Int)) ∧ wx.cell? ⟨b, off + k2 * 5 + 1, none⟩ = some (.int .i64 kd) ∧ wx.cell? ⟨b, off + k2 * 5 + 2, none⟩ = some (.string nm) ∧ wx.cell? ⟨b, off + k2 * 5 + 3, none⟩ = some (.string dt) ∧ wx.cell? ⟨b, off + k2 * 5 + 4, none⟩ = some (.slice A ats.length cc) ∧ wx.cell? ⟨w.heap.size, 0, none⟩ = some (.bool c.allow) ∧ wx.cell? ⟨w.heap.size, 1, none⟩ = some (.bool c.attrsAllow) ∧ wx.cell? ⟨w.heap.size, 2, none⟩ = some (vE) ∧ wx.cell? ⟨w.heap.size, 3, none⟩ = some (vR) ∧ wx.cell? ⟨w.heap.size, 4, none⟩ = some (vA) ∧ wx.cell? ⟨w.heap.size, 5, none⟩ = some (vP) ∧ wx.cell? ⟨w.heap.size, 6, none⟩ = some (.bool c.comments) ∧ wx.cell? ⟨w.heap.size, 7, none⟩ = some (.bool c.dataAttrs)) from by
          obtain ⟨f0, f1, f2, f3, f4⟩ := range5 (HXR.out wx hb')
          obtain ⟨a0, a1, a2, a3, a4, a5, a6, a7⟩ := (HCB.out wx hb').at_
          exact ⟨f0, f1, f2, f3, f4, a0, a1, a2, a3, a4, a5, a6, a7⟩)
        obtain ⟨q, hq⟩ : ∃ q, fateN c s ⟨(d : Int), kd, nm, dt, ats⟩ = q := ⟨_, rfl⟩
        have HFT := Lib.hid (fun wx (hb' : Below wr.heap.size wr wx) => (fate_any ⟨⟨(d : Int), kd, nm, dt, ats⟩, A, cc⟩ (confV c vE vR vA vP) c s wx q (HCV.out wx hb') HSM.out hq).mono fun r w' ⟨e, h⟩ => (show r = Ending.returned (.int .i64 q) ∧ Below wr.heap.size wr w' from ⟨e, hb'.trans (h.mono hb'.size)⟩))
        have HQ := Lib.hid hq; have HFL := Lib.hid hfl; have HBI := Lib.hid hbi; have HDR := Lib.hid hdr; have HZX := Lib.hid hzx; have HFX := Lib.hid hfx; have HBIW := Lib.hid hbI
        have HXM := Lib.hid hxR
        clear hxr hxa hq hfl hbi hdr hzx hfx hxm hxR hbI hdx
        by_cases hq1 : q = 1
        · have hqb : ((q : Int) == 1) = true := by rw [hq1]; rfl
          go_wp2_with fail
          refine wp_region_noPanic ?_
          refine wp_region_held_drew (S := fun wx => (wx.cell? ⟨b, off + k2 * 5, none⟩ = some (.int .i64 (d : Int)) ∧ wx.cell? ⟨b, off + k2 * 5 + 1, none⟩ = some (.int .i64 kd) ∧ wx.cell? ⟨b, off + k2 * 5 + 2, none⟩ = some (.string nm) ∧ wx.cell? ⟨b, off + k2 * 5 + 3, none⟩ = some (.string dt) ∧ wx.cell? ⟨b, off + k2 * 5 + 4, none⟩ = some (.slice A ats.length cc) ∧ wx.cell? ⟨w.heap.size, 0, none⟩ = some (.bool c.allow) ∧ wx.cell? ⟨w.heap.size, 1, none⟩ = some (.bool c.attrsAllow) ∧ wx.cell? ⟨w.heap.size, 2, none⟩ = some (vE) ∧ wx.cell? ⟨w.heap.size, 3, none⟩ = some (vR) ∧ wx.cell? ⟨w.heap.size, 4, none⟩ = some (vA) ∧ wx.cell? ⟨w.heap.size, 5, none⟩ = some (vP) ∧ wx.cell? ⟨w.heap.size, 6, none⟩ = some (.bool c.comments) ∧ wx.cell? ⟨w.heap.size, 7, none⟩ = some (.bool c.dataAttrs))) (by kernel_rfl) ?_ (fun hHeld => ?_)
          · exact HBS.out _ (bel_eq12 (Below.refl _ wr) rfl rfl rfl rfl)
          refine wpAnyH_take (i := 0) (oi := _) (v := ?_) rfl (by kernel_rfl) (by kernel_rfl) (by kernel_rfl) (fun _ _ _ h => h) (Or.inl ⟨by rfl, ?_⟩) (by assumption) ?_
          rotate_left
          · intro w hSw; (try dsimp only at hSw); go_simp; all_goals with_reducible rfl
          try simp only [Act.put, List.getElem_toArray, List.getElem_cons_zero, List.getElem_cons_succ, List.setIfInBounds_toArray, List.set_cons_zero, List.set_cons_succ]
          refine wpAnyH_take (i := 1) (oi := _) (v := ?_) rfl (by kernel_rfl) (by kernel_rfl) (by kernel_rfl) (fun _ _ _ h => h) (Or.inl ⟨by rfl, ?_⟩) (by assumption) ?_
          rotate_left
          · intro w hSw; (try dsimp only at hSw); go_simp; all_goals with_reducible rfl
          try simp only [Act.put, List.getElem_toArray, List.getElem_cons_zero, List.getElem_cons_succ, List.setIfInBounds_toArray, List.set_cons_zero, List.set_cons_succ]
          refine wpAnyH_take (i := 2) (oi := _) (v := ?_) rfl (by kernel_rfl) (by kernel_rfl) (by kernel_rfl) (fun _ _ _ h => h) (Or.inl ⟨by rfl, ?_⟩) (by assumption) ?_
          rotate_left
          · intro w hSw; (try dsimp only at hSw); go_simp; all_goals with_reducible rfl
          try simp only [Act.put, List.getElem_toArray, List.getElem_cons_zero, List.getElem_cons_succ, List.setIfInBounds_toArray, List.set_cons_zero, List.set_cons_succ]
          refine wpAnyH_take (i := 3) (oi := _) (v := ?_) rfl (by kernel_rfl) (by kernel_rfl) (by kernel_rfl) (fun _ _ _ h => h) (Or.inl ⟨by rfl, ?_⟩) (by assumption) ?_
          rotate_left
          · intro w hSw; (try dsimp only at hSw); go_simp; all_goals with_reducible rfl
          try simp only [Act.put, List.getElem_toArray, List.getElem_cons_zero, List.getElem_cons_succ, List.setIfInBounds_toArray, List.set_cons_zero, List.set_cons_succ]
          refine wpAnyH_take (i := 4) (oi := _) (v := ?_) rfl (by kernel_rfl) (by kernel_rfl) (by kernel_rfl) (fun _ _ _ h => h) (Or.inl ⟨by rfl, ?_⟩) (by assumption) ?_
          rotate_left
          · intro w hSw; (try dsimp only at hSw); go_simp; all_goals with_reducible rfl
          try simp only [Act.put, List.getElem_toArray, List.getElem_cons_zero, List.getElem_cons_succ, List.setIfInBounds_toArray, List.set_cons_zero, List.set_cons_succ]
          refine wpAnyH_take (i := 5) (oi := _) (v := ?_) rfl (by kernel_rfl) (by kernel_rfl) (by kernel_rfl) (fun _ _ _ h => h) (Or.inl ⟨by rfl, ?_⟩) (by assumption) ?_
          rotate_left
          · intro w hSw; (try dsimp only at hSw); go_simp; all_goals with_reducible rfl
          try simp only [Act.put, List.getElem_toArray, List.getElem_cons_zero, List.getElem_cons_succ, List.setIfInBounds_toArray, List.set_cons_zero, List.set_cons_succ]
          refine wpAnyH_ready (rs := [6]) (by kernel_rfl) (by simp) ?_
          refine AllReadyH.cons (o := _) rfl (fun K hK => ?_) AllReadyH.nil
          go_simp
          go_at_call 65
          refine (HFT.out _ (by exact bel_eq12 (Below.refl _ wr) rfl rfl rfl rfl)).mono ?_
          rintro r x1 ⟨rfl, hbx⟩
          have HBX1 := Lib.hid hbx
          clear hbx
          go_wp2_with fail
          refine hK.out _ _ ?_ (fun hHeld => ?_)
          · exact HBS.out _ (bel_eq12 HBX1.out rfl rfl rfl rfl)
          clear hK K
          try simp only [Act.put, List.getElem_toArray, List.getElem_cons_zero, List.getElem_cons_succ, List.setIfInBounds_toArray, List.set_cons_zero, List.set_cons_succ]
          refine wpAnyH_take (i := 7) (oi := _) (v := ?_) rfl (by kernel_rfl) (by kernel_rfl) (by kernel_rfl) (fun _ _ _ h => h) (Or.inl ⟨by rfl, ?_⟩) (by assumption) ?_
          rotate_left
          · intro w hSw; (try dsimp only at hSw); go_simp; all_goals with_reducible rfl
          try simp only [Act.put, List.getElem_toArray, List.getElem_cons_zero, List.getElem_cons_succ, List.setIfInBounds_toArray, List.set_cons_zero, List.set_cons_succ]
          refine wpAnyH_done (by kernel_rfl) ?_ _
          refine NoPanic.normal ?_
          have hbx1 := HBX1.out
          have HXW := Lib.hid (HBIW.out.trans (hbx1.mono HBIW.out.size))
          have HRX := Lib.hid (rr_on HR.out HXW.out)
          clear hbx1
          obtain ⟨E, hE⟩ : ∃ E, endAt (ros l) (k2 : Int) = E := ⟨_, rfl⟩
          have hE1 := Lib.hid hE
          have hEo : endOf (ros l) k2 = E := by rw [← hE, endAt_of (by rw [len_ros]; exact hp2)]
          have hEl := end_le (l := ros l) (k := k2) (by rw [len_ros]; exact hp2)
          rw [hEo, len_ros] at hEl
          have HEO := Lib.hid hEo
          clear hE hEo
          have HST := Lib.hid ((step_gone HDR.out rfl (HQ.out.trans hq1) D).symm.trans HFL.out)
          rw [HEO.out] at HST
          by_cases hel : E = l.length
          · have helb : ((E : Int) == (l.length : Int)) = true := by rw [hel]; simp
            go_wp2_with (first
              | (go_at_call 66; refine (End_any _ c0 l k2 x1 HRX.out hlc (by omega)).mono ?_; rintro r w4 ⟨rfl, rfl⟩; rw [hE1.out])
              | fail)
            (try rw [Exit.noGoto_ret])
            go_ret
            have hod1 := (HOD.out.below HBI.out).below (HBX1.out.mono (Nat.le_refl _))
            refine ⟨_, acc, rfl, hod1.mono (by omega), ?_, HXW.out⟩
            have := hros.out
            rw [← HST.out, hel, List.drop_of_length_le (by rw [len_ros]; exact Nat.le_refl _)] at this
            rw [← this]
            exact (List.append_nil _).symm
          · have helb : ((E : Int) == (l.length : Int)) = false := by simp; omega
            go_wp2_with (first
              | (go_at_call 66; refine (End_any _ c0 l k2 x1 HRX.out hlc (by omega)).mono ?_; rintro r w4 ⟨rfl, rfl⟩; rw [hE1.out])
              | fail)
            go_roundg (l.length - E)
            case measure => omega
            case rel => exact ⟨E, by omega, rfl, by omega, by omega, HBI.out.trans (HBX1.out.mono HBI.out.size), HST.out⟩
        · have hqb : ((q : Int) == 1) = false := by simp; omega
          go_wp2_with fail
          refine wp_region_noPanic ?_
          refine wp_region_held_drew (S := fun wx => (wx.cell? ⟨b, off + k2 * 5, none⟩ = some (.int .i64 (d : Int)) ∧ wx.cell? ⟨b, off + k2 * 5 + 1, none⟩ = some (.int .i64 kd) ∧ wx.cell? ⟨b, off + k2 * 5 + 2, none⟩ = some (.string nm) ∧ wx.cell? ⟨b, off + k2 * 5 + 3, none⟩ = some (.string dt) ∧ wx.cell? ⟨b, off + k2 * 5 + 4, none⟩ = some (.slice A ats.length cc) ∧ wx.cell? ⟨w.heap.size, 0, none⟩ = some (.bool c.allow) ∧ wx.cell? ⟨w.heap.size, 1, none⟩ = some (.bool c.attrsAllow) ∧ wx.cell? ⟨w.heap.size, 2, none⟩ = some (vE) ∧ wx.cell? ⟨w.heap.size, 3, none⟩ = some (vR) ∧ wx.cell? ⟨w.heap.size, 4, none⟩ = some (vA) ∧ wx.cell? ⟨w.heap.size, 5, none⟩ = some (vP) ∧ wx.cell? ⟨w.heap.size, 6, none⟩ = some (.bool c.comments) ∧ wx.cell? ⟨w.heap.size, 7, none⟩ = some (.bool c.dataAttrs))) (by kernel_rfl) ?_ (fun hHeld => ?_)
          · exact HBS.out _ (bel_eq12 (Below.refl _ wr) rfl rfl rfl rfl)
          refine wpAnyH_take (i := 0) (oi := _) (v := ?_) rfl (by kernel_rfl) (by kernel_rfl) (by kernel_rfl) (fun _ _ _ h => h) (Or.inl ⟨by rfl, ?_⟩) (by assumption) ?_
          rotate_left
          · intro w hSw; (try dsimp only at hSw); go_simp; all_goals with_reducible rfl
          try simp only [Act.put, List.getElem_toArray, List.getElem_cons_zero, List.getElem_cons_succ, List.setIfInBounds_toArray, List.set_cons_zero, List.set_cons_succ]
          refine wpAnyH_take (i := 1) (oi := _) (v := ?_) rfl (by kernel_rfl) (by kernel_rfl) (by kernel_rfl) (fun _ _ _ h => h) (Or.inl ⟨by rfl, ?_⟩) (by assumption) ?_
          rotate_left
          · intro w hSw; (try dsimp only at hSw); go_simp; all_goals with_reducible rfl
          try simp only [Act.put, List.getElem_toArray, List.getElem_cons_zero, List.getElem_cons_succ, List.setIfInBounds_toArray, List.set_cons_zero, List.set_cons_succ]
          refine wpAnyH_take (i := 2) (oi := _) (v := ?_) rfl (by kernel_rfl) (by kernel_rfl) (by kernel_rfl) (fun _ _ _ h => h) (Or.inl ⟨by rfl, ?_⟩) (by assumption) ?_
          rotate_left
          · intro w hSw; (try dsimp only at hSw); go_simp; all_goals with_reducible rfl
          try simp only [Act.put, List.getElem_toArray, List.getElem_cons_zero, List.getElem_cons_succ, List.setIfInBounds_toArray, List.set_cons_zero, List.set_cons_succ]
          refine wpAnyH_take (i := 3) (oi := _) (v := ?_) rfl (by kernel_rfl) (by kernel_rfl) (by kernel_rfl) (fun _ _ _ h => h) (Or.inl ⟨by rfl, ?_⟩) (by assumption) ?_
          rotate_left
          · intro w hSw; (try dsimp only at hSw); go_simp; all_goals with_reducible rfl
          try simp only [Act.put, List.getElem_toArray, List.getElem_cons_zero, List.getElem_cons_succ, List.setIfInBounds_toArray, List.set_cons_zero, List.set_cons_succ]
          refine wpAnyH_take (i := 4) (oi := _) (v := ?_) rfl (by kernel_rfl) (by kernel_rfl) (by kernel_rfl) (fun _ _ _ h => h) (Or.inl ⟨by rfl, ?_⟩) (by assumption) ?_
          rotate_left
          · intro w hSw; (try dsimp only at hSw); go_simp; all_goals with_reducible rfl
          try simp only [Act.put, List.getElem_toArray, List.getElem_cons_zero, List.getElem_cons_succ, List.setIfInBounds_toArray, List.set_cons_zero, List.set_cons_succ]
          refine wpAnyH_take (i := 5) (oi := _) (v := ?_) rfl (by kernel_rfl) (by kernel_rfl) (by kernel_rfl) (fun _ _ _ h => h) (Or.inl ⟨by rfl, ?_⟩) (by assumption) ?_
          rotate_left
          · intro w hSw; (try dsimp only at hSw); go_simp; all_goals with_reducible rfl
          try simp only [Act.put, List.getElem_toArray, List.getElem_cons_zero, List.getElem_cons_succ, List.setIfInBounds_toArray, List.set_cons_zero, List.set_cons_succ]
          refine wpAnyH_ready (rs := [6]) (by kernel_rfl) (by simp) ?_
          refine AllReadyH.cons (o := _) rfl (fun K hK => ?_) AllReadyH.nil
          go_simp
          go_at_call 65
          refine (HFT.out _ (by exact bel_eq12 (Below.refl _ wr) rfl rfl rfl rfl)).mono ?_
          rintro r x1 ⟨rfl, hbx⟩
          have HBX1 := Lib.hid hbx
          clear hbx
          go_wp2_with fail
          refine hK.out _ _ ?_ (fun hHeld => ?_)
          · exact HBS.out _ (bel_eq12 HBX1.out rfl rfl rfl rfl)
          clear hK K
          try simp only [Act.put, List.getElem_toArray, List.getElem_cons_zero, List.getElem_cons_succ, List.setIfInBounds_toArray, List.set_cons_zero, List.set_cons_succ]
          refine wpAnyH_take (i := 7) (oi := _) (v := ?_) rfl (by kernel_rfl) (by kernel_rfl) (by kernel_rfl) (fun _ _ _ h => h) (Or.inl ⟨by rfl, ?_⟩) (by assumption) ?_
          rotate_left
          · intro w hSw; (try dsimp only at hSw); go_simp; all_goals with_reducible rfl
          try simp only [Act.put, List.getElem_toArray, List.getElem_cons_zero, List.getElem_cons_succ, List.setIfInBounds_toArray, List.set_cons_zero, List.set_cons_succ]
          refine wpAnyH_done (by kernel_rfl) ?_ _
          refine NoPanic.normal ?_
          have HX1R := Lib.hid (HXR.out x1 HBX1.out)
          have hx1s : w.heap.size + 2 ≤ x1.heap.size := Nat.le_trans hN (Nat.le_trans hsi HBX1.out.size)
          have hdb1 := (HDB.out.on HBI.out).on (HBX1.out)
          go_upto_region 10 with (first | (refine wpList_load_mid rfl 36 (.tmp 35) rfl b (off + k2 * 5) rfl _ _ HX1R.out Try.underlying36 rfl size_row ?_) | fail)
          obtain ⟨w6, hw6⟩ : ∃ w6, x1.alloc (rowO ⟨⟨(d : Int), kd, nm, dt, ats⟩, A, cc⟩) = w6 := ⟨_, rfl⟩
          rw [hw6]
          have hv6 : Hv 36 w6 x1.heap.size #[.int .i64 (d : Int), .int .i64 kd, .string nm, .string dt, .slice A ats.length cc] := hw6 ▸ Hv.new _ _ _
          have hb6 : Below x1.heap.size x1 w6 := hw6 ▸ below_new x1 _
          have hdb6 : Db w6 (w.heap.size + 1) D := hdb1.on hb6
          have r0 := hv6.cell 0 _ rfl
          have f0 := hv6.f 0
          have d0 := hdb6.cell d (by omega)
          have HV6 := Lib.hid hv6; have HB6 := Lib.hid hb6; have HDB6 := Lib.hid hdb6
          clear hw6 hdb1 hv6 hb6 hdb6
          go_upto_region 12 with (fail)
          obtain ⟨w7, hw7⟩ : ∃ w7, w6.setCell ⟨x1.heap.size, 0, none⟩ (.int .i64 (D (d : Int))) = w7 := ⟨_, rfl⟩
          rw [hw7]
          have hv7 : Hv 36 w7 x1.heap.size #[.int .i64 (D (d : Int)), .int .i64 kd, .string nm, .string dt, .slice A ats.length cc] := hw7 ▸ HV6.out.set 0 (.int .i64 (D (d : Int)))
          have hb7 : Below x1.heap.size x1 w7 := hw7 ▸ HB6.out.setCell (Nat.le_refl _) _
          have hdb7 : Db w7 (w.heap.size + 1) D := hw7 ▸ HDB6.out.keep (Below.heap_setCell _ _ _ _ (show w.heap.size + 1 ≠ x1.heap.size by omega))
          clear r0 f0 d0 hw7
          have r0 := hv7.cell 0 _ rfl
          have d1 := hdb7.cell (d + 1) (by omega)
          have f1 := hdb7.f (d + 1)
          have HV7 := Lib.hid hv7; have HB7 := Lib.hid hb7; have HDB7 := Lib.hid hdb7
          clear hv7 hb7 hdb7 HV6 HB6 HDB6
          go_upto_region 13 with (fail)
          obtain ⟨w8, hw8⟩ : ∃ w8, w7.setCell ⟨w.heap.size + 1, d + 1, none⟩ (.int .i64 (D (d : Int))) = w8 := ⟨_, rfl⟩
          rw [hw8]
          have hv8 : Hv 36 w8 x1.heap.size #[.int .i64 (D (d : Int)), .int .i64 kd, .string nm, .string dt, .slice A ats.length cc] := hw8 ▸ HV7.out.other (d + 1) _ (show x1.heap.size ≠ w.heap.size + 1 by omega)
          have hdb8 : Db w8 (w.heap.size + 1) (put_ D ((d + 1 : Nat) : Int) (D (d : Int))) := hw8 ▸ HDB7.out.set (d + 1) _
          have hg8 : x1.grownBy w8 (some (w.heap.size + 1)) := hw8 ▸ (below_grown _ HB7.out).trans (Co.gcell12 w7 _ (d + 1) _)
          have hs8 := hg8.size
          have HG8 := Lib.hid hg8
          have hod8 : Od (w.heap.size + 2) w8 u acc := ((HOD.out.below HBI.out).below HBX1.out).grown hg8 (by omega)
          have hbel8 : Below w.heap.size w w8 := (HBIW.out.trans (HBX1.out.mono HBIW.out.size)).grown hg8 (by omega) (fun j hj => by injection hj with hj; omega)
          have hbx8 : Co.Bx w8 w.heap.size c vE vR vA vP := by
            have h1 := HCB.out x1 HBX1.out
            exact range_keep h1 fun o => World.cell?_of_block (a := ⟨w.heap.size, o, none⟩) (hg8.block w.heap.size (by omega) (by simp))
          have HVR8 := Lib.hid (show w8.rangeAt x1.heap.size 0 [.int .i64 (D (d : Int)), .int .i64 kd, .string nm, .string dt, .slice A ats.length cc] from hv8.range)
          have HCV8 := Lib.hid (show Cv w8 w8.heap.size (confV c vE vR vA vP) c from ⟨_, _, _, _, _, rfl, HCP.out.on hbel8⟩)
          have HV8 := Lib.hid hv8; have HDB8 := Lib.hid hdb8; have HOD8 := Lib.hid hod8; have HBL8 := Lib.hid hbel8; have HBX8 := Lib.hid hbx8
          have hs8' : w.heap.size + 2 ≤ w8.heap.size := by omega
          have hgl : x1.heap.size < w8.heap.size := hv8.lt
          clear r0 d1 f1 hw8 hv8 hdb8 hg8 hod8 hbel8 hbx8 HV7 HB7 HDB7
          obtain ⟨hDd0, hDd1⟩ := hD.out (d : Int)
          have hcast : ((d + 1 : Nat) : Int) = (d : Int) + 1 := by omega
          have HFT8 := Lib.hid (fate_any ⟨⟨D (d : Int), kd, nm, dt, ats⟩, A, cc⟩ (confV c vE vR vA vP) c s w8 q HCV8.out HSM.out HQ.out)
          by_cases hq0 : q = 0
          · have hqb0 : ((q : Int) == 0) = true := by rw [hq0]; rfl
            go_upto_region 14 with (first
              | (show wpList _ _ _ (⟨_, Op.load 36 (.tmp 10), _, _, _, _⟩ :: _) _ _; refine wpList_load_mid rfl 36 (.tmp 10) rfl x1.heap.size 0 rfl _ _ HVR8.out Try.underlying36 rfl size_row ?_)
              | (show wpList _ _ _ (⟨_, Op.load 26 (.tmp 4), _, _, _, _⟩ :: _) _ _; refine wpList_load_mid rfl 26 (.tmp 4) rfl w.heap.size 0 rfl _ _ HBX8.out Try.underlying26 rfl Co.size_conf ?_)
              | (go_at_call 65; refine HFT8.out.mono ?_; rintro r w9 ⟨rfl, hb9⟩; have HB9 := Lib.hid hb9; clear hb9)
              | fail)
            have hbel9 := HBL8.out.trans (HB9.out.mono HBL8.out.size)
            have HBX9 := Lib.hid (HBX8.out.below HB9.out (by omega))
            have HV9 := Lib.hid (HV8.out.on HB9.out)
            have HVR9 := Lib.hid (show w9.rangeAt x1.heap.size 0 [.int .i64 (D (d : Int)), .int .i64 kd, .string nm, .string dt, .slice A ats.length cc] from HV9.out.range)
            have HCV9 := Lib.hid (show Cv w9 w9.heap.size (confV c vE vR vA vP) c from ⟨_, _, _, _, _, rfl, HCP.out.on hbel9⟩)
            have HAT := Lib.hid (attrs_any ⟨⟨D (d : Int), kd, nm, dt, ats⟩, A, cc⟩ (confV c vE vR vA vP) c s w9 (HXA.out w9 hbel9) HZX.out HCV9.out HSM.out HFX.out)
            have HBL9 := Lib.hid hbel9
            have hs9 := HB9.out.size
            clear hbel9
            go_upto_region 15 with (first
              | (show wpList _ _ _ (⟨_, Op.load 36 (.tmp 10), _, _, _, _⟩ :: _) _ _; refine wpList_load_mid rfl 36 (.tmp 10) rfl x1.heap.size 0 rfl _ _ HVR9.out Try.underlying36 rfl size_row ?_)
              | (show wpList _ _ _ (⟨_, Op.load 26 (.tmp 4), _, _, _, _⟩ :: _) _ _; refine wpList_load_mid rfl 26 (.tmp 4) rfl w.heap.size 0 rfl _ _ HBX9.out Try.underlying26 rfl Co.size_conf ?_)
              | (go_at_call 17; refine HAT.out.mono ?_; rintro r w10 ⟨v10, rfl, haw10, hb10⟩; obtain ⟨A9, c9, rfl⟩ := haw10.form; have HB10 := Lib.hid hb10; have HAW10 := Lib.hid haw10; have HV10 := Lib.hid (HV9.out.on hb10); have r4 := HV10.out.cell 4 _ rfl; have f4 := HV10.out.f 4; clear hb10 haw10)
              | fail)
            obtain ⟨w11, hw11⟩ : ∃ w11, w10.setCell ⟨x1.heap.size, 4, none⟩ (.slice A9 (attrsF c s ⟨D (d : Int), kd, nm, dt, ats⟩).length c9) = w11 := ⟨_, rfl⟩
            rw [hw11]
            have hs10 := HB10.out.size
            have hs11 : w11.heap.size = w10.heap.size := by rw [← hw11]; simp [World.setCell]
            have hv11 : Hv 36 w11 x1.heap.size #[.int .i64 (D (d : Int)), .int .i64 kd, .string nm, .string dt, .slice A9 (attrsF c s ⟨D (d : Int), kd, nm, dt, ats⟩).length c9] := hw11 ▸ HV10.out.set 4 _
            have hg11 : x1.grownBy w11 (some (w.heap.size + 1)) := by
              have hx8 : x1.heap.size ≤ w8.heap.size := HG8.out.size
              refine ⟨?_, ?_, ?_, by omega, fun j hj hne => ?_⟩
              · rw [← hw11]; exact HB10.out.os.trans (HB9.out.os.trans HG8.out.os)
              · rw [← hw11]; exact HB10.out.tape.trans (HB9.out.tape.trans HG8.out.tape)
              · rw [← hw11]; exact HB10.out.output.trans (HB9.out.output.trans HG8.out.output)
              · rw [← hw11, Below.heap_setCell _ _ _ _ (show j ≠ x1.heap.size by omega), HB10.out.block j (by omega), HB9.out.block j (by omega)]
                exact HG8.out.block j hj hne
            have hod11 : Od (w.heap.size + 2) w11 u acc := ((HOD.out.below HBI.out).below HBX1.out).grown hg11 (by omega)
            have hfr11 : Fr (w.heap.size + 2) w11 ⟨⟨D (d : Int), kd, nm, dt, attrsF c s ⟨D (d : Int), kd, nm, dt, ats⟩⟩, A9, c9⟩ := hw11 ▸ ⟨World.ownsRow.mono (Co.row_elder HAW10.out.1 (Co.gcell12 w10 x1.heap.size 4 _) (fun q hq => by injection hq with hq; omega)) (by omega), HAW10.out.2⟩
            have hbel11 : Below w.heap.size w w11 := (HBIW.out.trans (HBX1.out.mono HBIW.out.size)).grown hg11 (by omega) (fun j hj => by injection hj with hj; omega)
            have hdb11 : Db w11 (w.heap.size + 1) (put_ D ((d + 1 : Nat) : Int) (D (d : Int))) := hw11 ▸ (((HDB8.out.on HB9.out).on HB10.out).keep (Below.heap_setCell _ _ _ _ (show w.heap.size + 1 ≠ x1.heap.size by omega)))
            have hbx11 : Co.Bx w11 w.heap.size c vE vR vA vP := range_keep (HCB.out x1 HBX1.out) fun o => World.cell?_of_block (a := ⟨w.heap.size, o, none⟩) (hg11.block w.heap.size (by omega) (by simp))
            have HVR11 := Lib.hid (show w11.rangeAt x1.heap.size 0 [.int .i64 (D (d : Int)), .int .i64 kd, .string nm, .string dt, .slice A9 (attrsF c s ⟨D (d : Int), kd, nm, dt, ats⟩).length c9] from hv11.range)
            have HOD11 := Lib.hid hod11; have HFR11 := Lib.hid hfr11; have HBL11 := Lib.hid hbel11; have HDB11 := Lib.hid hdb11; have HBX11 := Lib.hid hbx11
            have hs11' : w.heap.size + 2 ≤ w11.heap.size := by omega
            have HS11 := Lib.hid hs11
            clear hs11
            clear r4 f4 hw11 hv11 hg11 hod11 hfr11 hbel11 hdb11 hbx11
            go_upto_region 16 with (first
              | (show wpList _ _ _ (⟨_, Op.load 36 (.tmp 10), _, _, _, _⟩ :: _) _ _; refine wpList_load_mid rfl 36 (.tmp 10) rfl x1.heap.size 0 rfl _ _ HVR11.out Try.underlying36 rfl size_row ?_)
              | (at_builtin; refine app_row w11 rfl (.tmp 59) (.tmp 61) rfl (w.heap.size + 2) u acc ⟨⟨D (d : Int), kd, nm, dt, attrsF c s ⟨D (d : Int), kd, nm, dt, ats⟩⟩, A9, c9⟩ rfl HOD11.out.ow HFR11.out.att HFR11.out.ap w11.heap.size rfl rfl (by omega) hs11' ?_; intro v12 w12 ho12 hk12 hf12)
              | fail)
            have hb12 : Below (w.heap.size + 2) w11 w12 := hk12 w11 (Below.refl _ _)
            have hod12 : Od (w.heap.size + 2) w12 v12 (acc ++ [⟨⟨D (d : Int), kd, nm, dt, attrsF c s ⟨D (d : Int), kd, nm, dt, ats⟩⟩, A9, c9⟩]) := ⟨ho12.1, fun z hz => hf12 z (by
              rcases List.mem_append.1 hz with hz | hz
              · exact HOD11.out.2 z hz
              · rw [List.mem_singleton.1 hz]; exact HFR11.out)⟩
            have hdb12 := HDB11.out.keep (hb12.block (w.heap.size + 1) (by omega))
            have HDC := Lib.hid hdb12
            have d1 := hdb12.cell (d + 1) (by omega)
            rw [put_at] at d1
            have f1 := hdb12.f (d + 1)
            have HB12 := Lib.hid hb12; have HOD12 := Lib.hid hod12
            clear ho12 hk12 hf12 hb12 hod12 hdb12
            go_wp2
            go_roundg (l.length - (k2 + 1))
            case measure => omega
            case rel =>
              have hg13 := Co.gcell12 w12 (w.heap.size + 1) (d + 1) (.int .i64 (D (d : Int) + 1))
              have hs13 := hg13.size
              have hs12 := HB12.out.size
              have hdb13 := HDC.out.set (d + 1) (D (d : Int) + 1)
              rw [put_twice] at hdb13
              refine ⟨k2 + 1, v12, acc ++ [⟨⟨D (d : Int), kd, nm, dt, attrsF c s ⟨D (d : Int), kd, nm, dt, ats⟩⟩, A9, c9⟩], put_ D ((d + 1 : Nat) : Int) (D (d : Int) + 1), by omega, by go_num, rfl, by rw [List.length_append]; show acc.length + 1 ≤ _; omega, HOD12.out.grown hg13 (by omega), hdb13, Lib.hid ?_, (HBX11.out.below HB12.out (by omega)).below (below_of_grown hg13 (by omega)) (Nat.lt_succ_self _), (HBL11.out.trans (HB12.out.mono (by omega))).grown hg13 (by omega) (fun j hj => by injection hj with hj; omega), by omega, Lib.hid ?_⟩
              · have h := put_le (n := k2) (k := ((d + 1 : Nat) : Int)) (a := D (d : Int) + 1) (fun j => ⟨(hD.out j).1, Int.le_trans (hD.out j).2 (by omega)⟩) (by omega) (by omega)
                exact h
              · have h1 := step_keep (g := fateN c s) (f := attrsF c s) HDR.out (HQ.out.trans hq0) D
                rw [HFL.out] at h1
                have := hros.out
                rw [h1] at this
                rw [hcast, ros_append, List.append_assoc]
                exact this
          · have hqb0 : ((q : Int) == 0) = false := by simp; omega
            go_wp2_with (first
              | (show wpList _ _ _ (⟨_, Op.load 36 (.tmp 10), _, _, _, _⟩ :: _) _ _; refine wpList_load_mid rfl 36 (.tmp 10) rfl x1.heap.size 0 rfl _ _ HVR8.out Try.underlying36 rfl size_row ?_)
              | (show wpList _ _ _ (⟨_, Op.load 26 (.tmp 4), _, _, _, _⟩ :: _) _ _; refine wpList_load_mid rfl 26 (.tmp 4) rfl w.heap.size 0 rfl _ _ HBX8.out Try.underlying26 rfl Co.size_conf ?_)
              | (go_at_call 65; refine HFT8.out.mono ?_; rintro r w9 ⟨rfl, hb9⟩; have HB9 := Lib.hid hb9; clear hb9)
              | fail)
            go_roundg (l.length - (k2 + 1))
            case measure => omega
            case rel =>
              refine ⟨k2 + 1, _, acc, put_ D ((d + 1 : Nat) : Int) (D (d : Int)), by omega, by go_num, rfl, by omega, HOD8.out.below HB9.out, HDB8.out.on HB9.out, Lib.hid ?_, HBX8.out.below HB9.out (by omega), HBL8.out.trans (HB9.out.mono HBL8.out.size), Nat.le_trans hs8' HB9.out.size, Lib.hid ?_⟩
              · have h := put_le (n := k2) (k := ((d + 1 : Nat) : Int)) (a := D (d : Int)) (fun j => ⟨(hD.out j).1, Int.le_trans (hD.out j).2 (by omega)⟩) hDd0 (by omega)
                exact h
              · have h1 := step_open (g := fateN c s) (f := attrsF c s) HDR.out (fun e => hq0 (HQ.out.symm.trans e)) (fun e => hq1 (HQ.out.symm.trans e)) D
                rw [HFL.out] at h1
                have := hros.out
                rw [h1] at this
                rw [hcast]
                exact this
    · have e : (ros l).drop k = [] := List.drop_of_length_le (by rw [len_ros]; omega)
      have HE := Lib.hid e
      have HOD := Lib.hid hod; have HBL := Lib.hid hbel
      clear e hod hdb hbx hbel
      go_wp2
      (try rw [Exit.noGoto_ret])
      go_ret
      have := hros.out
      rw [HE.out] at this
      exact ⟨_, acc, rfl, HOD.out.mono (by omega), by rw [← this]; exact (List.append_nil _).symm, HBL.out⟩

end Go.Proofs.Ytdjkeakagmgfgaa.Cn

namespace Go.Proofs.Ytdjkeakagmgfgaa.Na
set_option maxRecDepth 100000
set_option linter.unusedSimpArgs false
set_option linter.unusedVariables false
open Go.RowKit Ba Fm Fo Nm
theorem u8_range {c : UInt8} : (decide ((65 : UInt8) ≤ c) && decide (c ≤ 90)) = (decide ((65 : Int) ≤ c.toNat) && decide ((c.toNat : Int) ≤ 90)) := by
  rw [Bool.eq_iff_iff]
  simp only [Bool.and_eq_true, decide_eq_true_eq, UInt8.le_iff_toNat_le]
  have e65 : (65 : UInt8).toNat = 65 := rfl
  have e90 : (90 : UInt8).toNat = 90 := rfl
  rw [e65, e90]
  omega
theorem u8_small {c : UInt8} : small c = (decide ((97 : Int) ≤ c.toNat) && decide ((c.toNat : Int) ≤ 122)) := by
  unfold small
  rw [Bool.eq_iff_iff]
  simp only [Bool.and_eq_true, decide_eq_true_eq, UInt8.le_iff_toNat_le]
  have e65 : (97 : UInt8).toNat = 97 := rfl
  have e90 : (122 : UInt8).toNat = 122 := rfl
  rw [e65, e90]
  omega

def elBAll (s : ByteArray) : Bool := (L s).all elB
def atBAll (s : ByteArray) : Bool := (L s).all atB
theorem all_snoc (p : UInt8 → Bool) (s : ByteArray) (k : Nat) (h : k < s.size) : ((L s).take (k + 1)).all p = (((L s).take k).all p && p s[k]) := by
  rw [take_snoc s k h, List.all_append]; simp
theorem all_no (p : UInt8 → Bool) (s : ByteArray) (k : Nat) (h : k < s.size) (hb : p s[k] = false) : (L s).all p = false := by
  rw [List.all_eq_false]
  exact ⟨s[k], List.getElem_mem (by rw [size_L]; exact h), by simp [hb]⟩

set_option maxHeartbeats 1000000 in
theorem inElement_any (c : UInt8) (w : World) :
    Calls Try.prog 105 #[.int .u8 c.toNat] w fun e w' => e = .returned (.bool (elB c)) ∧ w = w' := by
  have e0 : ((c.toNat : Int) == 0) = (c == 0) := u8_eq (b := 0)
  have e47 : ((c.toNat : Int) == 47) = (c == 47) := u8_eq (b := 47)
  have e62 : ((c.toNat : Int) == 62) = (c == 62) := u8_eq (b := 62)
  have hr := u8_range (c := c)
  have he : elB c = !(sp c || (decide ((65 : UInt8) ≤ c) && decide (c ≤ 90)) || c == 0 || c == 47 || c == 62) := rfl
  rw [hr] at he
  obtain ⟨q, hq⟩ : ∃ q, elB c = q := ⟨_, rfl⟩
  rw [hq] at he ⊢
  clear hr hq
  cases h0 : (c == 0) <;> cases h47 : (c == 47) <;> cases h62 : (c == 62)
  all_goals
    rw [h0] at e0
    rw [h47] at e47
    rw [h62] at e62
    rw [h0, h47, h62] at he
    clear h0 h47 h62
  case false.false.false =>
    cases hs : sp c <;> by_cases h1 : (65 : Int) ≤ c.toNat <;> by_cases h2 : (c.toNat : Int) ≤ 90
    all_goals
      have HE := Lib.hid he; have HS := Lib.hid hs
      clear he hs
      first
      | omega
      | (go_enter Try.func105, Try.ntmps105
         go_wp2_with (go_at_call 115; refine (space_any c _).mono ?_; rw [HS.out]; rintro e w' ⟨rfl, rfl⟩)
         go_ret
         exact ⟨ret_bool (by rw [HE.out, HS.out]; simp [h1, h2]), rfl⟩)
  all_goals
    have HE := Lib.hid he
    clear he
    go_enter Try.func105, Try.ntmps105
    go_wp2
    go_ret
    exact ⟨ret_bool (by rw [HE.out]; simp), rfl⟩

set_option maxHeartbeats 1000000 in
theorem inAttr_any (c : UInt8) (w : World) :
    Calls Try.prog 106 #[.int .u8 c.toNat] w fun e w' => e = .returned (.bool (atB c)) ∧ w = w' := by
  have e34 : ((c.toNat : Int) == 34) = (c == 34) := u8_eq (b := 34)
  have e39 : ((c.toNat : Int) == 39) = (c == 39) := u8_eq (b := 39)
  have e60 : ((c.toNat : Int) == 60) = (c == 60) := u8_eq (b := 60)
  have e61 : ((c.toNat : Int) == 61) = (c == 61) := u8_eq (b := 61)
  have he : atB c = (elB c && !(c == 34 || c == 39 || c == 60 || c == 61)) := rfl
  obtain ⟨q, hq⟩ : ∃ q, atB c = q := ⟨_, rfl⟩
  rw [hq] at he ⊢
  clear hq
  cases h34 : (c == 34) <;> cases h39 : (c == 39) <;> cases h60 : (c == 60) <;> cases h61 : (c == 61)
  all_goals
    rw [h34] at e34
    rw [h39] at e39
    rw [h60] at e60
    rw [h61] at e61
    rw [h34, h39, h60, h61] at he
    clear h34 h39 h60 h61
    have HE := Lib.hid he
    clear he
    go_enter Try.func106, Try.ntmps106
    go_wp2_with (go_at_call 105; refine (inElement_any c _).mono ?_; rintro e w' ⟨rfl, rfl⟩)
    go_ret
    exact ⟨ret_bool (by rw [HE.out]; simp), rfl⟩

set_option maxHeartbeats 1000000 in
theorem every_el (s : ByteArray) (w : World) (hs : s.size ≤ 140737488355328) :
    Calls Try.prog 104 #[.string s, .func (.func 105) #[] #[]] w fun e w' => e = .returned (.bool (elBAll s)) ∧ w = w' := by
  go_enter Try.func104, Try.ntmps104
  go_wp2
  go_loop [8] (fun i => ∃ k : Nat, i = .int .i64 k ∧ k ≤ s.size ∧ ((L s).take k).all elB = true) (fun i => s.size - (intOf i).toNat)
  case atStart => exact ⟨0, rfl, Nat.zero_le _, by simp⟩
  case round =>
    obtain ⟨k, rfl, hks, hn⟩ := hrel
    by_cases hp : k < s.size
    · have hsn := all_snoc elB s k hp
      rw [hn] at hsn
      cases hb : elB s[k] with
      | true =>
        rw [hb] at hsn
        have HB := Lib.hid hb; have HS := Lib.hid hsn; clear hb hsn hn
        go_wp2_with (go_at_call 105; refine (inElement_any s[k] _).mono ?_; rw [HB.out]; rintro e w' ⟨rfl, rfl⟩)
        go_round
        case rel => exact ⟨k + 1, by go_num, by omega, HS.out⟩
        case measure => simp [intOf]; omega
      | false =>
        have hno : elBAll s = false := all_no elB s k hp hb
        have HB := Lib.hid hb; have HN := Lib.hid hno; clear hb hsn hn hno
        go_wp2_with (go_at_call 105; refine (inElement_any s[k] _).mono ?_; rw [HB.out]; rintro e w' ⟨rfl, rfl⟩)
        go_ret
        exact ⟨ret_bool HN.out.symm, rfl⟩
    · rw [List.take_of_length_le (by rw [size_L]; omega)] at hn
      have hn : elBAll s = true := hn
      have HN := Lib.hid hn; clear hn
      go_wp2
      go_ret
      exact ⟨ret_bool HN.out.symm, rfl⟩
set_option maxHeartbeats 1000000 in
theorem every_at (s : ByteArray) (w : World) (hs : s.size ≤ 140737488355328) :
    Calls Try.prog 104 #[.string s, .func (.func 106) #[] #[]] w fun e w' => e = .returned (.bool (atBAll s)) ∧ w = w' := by
  go_enter Try.func104, Try.ntmps104
  go_wp2
  go_loop [8] (fun i => ∃ k : Nat, i = .int .i64 k ∧ k ≤ s.size ∧ ((L s).take k).all atB = true) (fun i => s.size - (intOf i).toNat)
  case atStart => exact ⟨0, rfl, Nat.zero_le _, by simp⟩
  case round =>
    obtain ⟨k, rfl, hks, hn⟩ := hrel
    by_cases hp : k < s.size
    · have hsn := all_snoc atB s k hp
      rw [hn] at hsn
      cases hb : atB s[k] with
      | true =>
        rw [hb] at hsn
        have HB := Lib.hid hb; have HS := Lib.hid hsn; clear hb hsn hn
        go_wp2_with (go_at_call 106; refine (inAttr_any s[k] _).mono ?_; rw [HB.out]; rintro e w' ⟨rfl, rfl⟩)
        go_round
        case rel => exact ⟨k + 1, by go_num, by omega, HS.out⟩
        case measure => simp [intOf]; omega
      | false =>
        have hno : atBAll s = false := all_no atB s k hp hb
        have HB := Lib.hid hb; have HN := Lib.hid hno; clear hb hsn hn hno
        go_wp2_with (go_at_call 106; refine (inAttr_any s[k] _).mono ?_; rw [HB.out]; rintro e w' ⟨rfl, rfl⟩)
        go_ret
        exact ⟨ret_bool HN.out.symm, rfl⟩
    · rw [List.take_of_length_le (by rw [size_L]; omega)] at hn
      have hn : atBAll s = true := hn
      have HN := Lib.hid hn; clear hn
      go_wp2
      go_ret
      exact ⟨ret_bool HN.out.symm, rfl⟩

theorem nil_size {s : ByteArray} (h : s.toList = []) : s.size = 0 := by
  rw [toList_L] at h
  rw [← size_L, h]; rfl
theorem not_nil {s : ByteArray} (h : ¬ s.size = 0) : ¬ s.toList = [] := fun e => h (nil_size e)
theorem nil_of {s : ByteArray} (h : s.size = 0) : s.toList = [] := by
  rw [toList_L]
  exact List.eq_nil_of_length_eq_zero (by rw [size_L]; exact h)
theorem attrB_nil {s : ByteArray} (h : s.size = 0) : attrB s = false := by
  unfold attrB
  rw [← toList_L, nil_of h]; rfl
theorem rightB_nil {s : ByteArray} (h : s.size = 0) : rightB s = false := by
  unfold rightB
  rw [← toList_L, nil_of h]; rfl
theorem attrB_cons {s : ByteArray} (h : ¬ s.size = 0) : attrB s = atBAll s := by
  unfold attrB atBAll
  have := drop_cons s 0 (by omega)
  rw [List.drop_zero] at this
  rw [this]; rfl
theorem rightB_cons {s : ByteArray} (h : 0 < s.size) : rightB s = (small s[0] && elBAll s) := by
  unfold rightB elBAll
  have := drop_cons s 0 h
  rw [List.drop_zero] at this
  rw [this]; rfl

set_option maxHeartbeats 1000000 in
theorem attr_any (s : ByteArray) (w : World) (hs : s.size ≤ 140737488355328) :
    Calls Try.prog 82 #[.string s] w fun e w' => e = .returned (.bool (attrB s)) ∧ w = w' := by
  by_cases h0 : s.size = 0
  · rw [attrB_nil h0]
    have hn := nil_of h0
    clear h0
    go_enter Try.func82, Try.ntmps82
    go_wp2
    go_ret
    exact ⟨rfl, rfl⟩
  · rw [attrB_cons h0]
    have hn := not_nil h0
    clear h0
    go_enter Try.func82, Try.ntmps82
    go_wp2_with fail
    refine (every_at s w hs).mono ?_
    rintro e w' ⟨rfl, rfl⟩
    go_wp2
    go_ret
    exact ⟨ret_bool (by simp [hn]), rfl⟩
set_option maxHeartbeats 1000000 in
theorem right_any (s : ByteArray) (w : World) (hs : s.size ≤ 140737488355328) :
    Calls Try.prog 81 #[.string s] w fun e w' => e = .returned (.bool (rightB s)) ∧ w = w' := by
  by_cases h0 : s.size = 0
  · rw [rightB_nil h0]
    have hn := nil_of h0
    clear h0
    go_enter Try.func81, Try.ntmps81
    go_wp2
    go_ret
    exact ⟨rfl, rfl⟩
  · have hp : 0 < s.size := by omega
    have he := rightB_cons hp
    rw [u8_small] at he
    obtain ⟨q, hq⟩ : ∃ q, rightB s = q := ⟨_, rfl⟩
    rw [hq] at he ⊢
    have hn := not_nil h0
    clear h0 hq
    have HE := Lib.hid he
    clear he
    by_cases h1 : (97 : Int) ≤ s[0].toNat <;> by_cases h2 : (s[0].toNat : Int) ≤ 122
    all_goals
      go_enter Try.func81, Try.ntmps81
      go_wp2_with (go_at_call 104; refine (every_el s _ hs).mono ?_; rintro e w' ⟨rfl, rfl⟩)
      go_ret
      refine ⟨ret_bool ?_, rfl⟩
      rw [HE.out]
      by_cases g1 : (97 : Int) ≤ s[0].toNat
      · by_cases g2 : (s[0].toNat : Int) ≤ 122
        · rw [decide_eq_true g1, decide_eq_true g2]
          first | rfl | (simp [hn]; done) | (exfalso; omega)
        · rw [decide_eq_false g2, decide_eq_true g1]
          first | rfl | (exfalso; omega)
      · rw [decide_eq_false g1]
        first | rfl | (exfalso; omega)

end Go.Proofs.Ytdjkeakagmgfgaa.Na
