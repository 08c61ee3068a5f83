/-
  Stage 11: append onto slices of one's own, as a step.
  Stage 11: a list with one more, a list without one.
  Stage 11: a list without one.
  Stage 11: the program's New, add.
  Stage 11: the program's add.
  Stage 11: the program's adopt.
  Stage 11: the program's Make.
  Stage 11: the program's grow, Load.
  Stage 11: the program's Load.
  Stage 11: the program's Within.
  Stage 11: the program's detach, Remove.
-/
import Derived.Test.YtmlchbohijolaaaCk05
import Derived.Maps.AppendAt
import Derived.Test.YtmlchbohijolaaaCk03
import Derived.Deep.RegionLaw
import Derived.Test.YtmlchbohijolaaaCk04
namespace Go.Proofs.Ytmlchbohijolaaa.Ar
set_option maxRecDepth 100000
set_option linter.unusedSimpArgs false
set_option linter.unusedVariables false
open Go.RowKit Ba
open Ro (At Ro Cw ros Rr Ow Nw Fr Att Ap Sh Ra cells acells len_acells acells_one app_num below_new infoI info_row info_attr len_cells)
open To (Aw)
theorem run_app_any (w : World) (T ty t : TypeId) (i : TypeInfo) (z : Value) (s bytes : Nat) (h1 : Try.prog.underlying T = some (.slice t)) (h2 : Try.prog.info? t = some i) (h3 : i.zero = some z) (h4 : i.size = s) (h5 : i.bytes = bytes) (h6 : z.cells.size = s) (h7 : 0 < s)
    (N : Nat) (A : Option Addr) (n c : Nat) (xs : List Value) (hown : Of w N t s A n c xs) (B : Option Addr) (m cc : Nat) (ys : List Value) (hn : ys.length = m * s) (hB : B = none → m = 0 ∧ cc = 0 ∧ w.ownsRow N t s (.slice A n c) n xs) (hc : ∀ ad, B = some ad → ∀ j u, ys[j]? = some u → w.cell? (ad.add j) = some u) (h1c : ∀ u ∈ ys, u.oneCell' = true)
    (b1 : n + m ≤ maxLen) (b2 : (n + m) * bytes ≤ 140737488355328) (hN : N ≤ w.heap.size) :
    ∃ A' c' w', (Builtin.append_ #[T, T] ty #[.slice A n c, .slice B m cc]).run Try.prog w = .ok (.slice A' (n + m) c') w' ∧ Of w' N t s A' (n + m) c' (xs ++ ys) ∧ (0 < m → w'.ownsRow N t s (.slice A' (n + m) c') (n + m) (xs ++ ys)) ∧ w.grownBy w' (A.map Addr.block) ∧ (∀ b, A'.map Addr.block = some b → A.map Addr.block = some b ∨ w.heap.size ≤ b) ∧ (c < n + m → w.grownBy w' none ∧ ∀ b, A'.map Addr.block = some b → w.heap.size ≤ b) := by
  have hcap := hown.cap
  cases B with
  | none =>
    obtain ⟨rfl, rfl, ho⟩ := hB rfl
    have hy : ys = [] := List.eq_nil_of_length_eq_zero (by simpa using hn)
    subst hy
    have hr := run_append_owned_none (P := Try.prog) (w := w) N T ty t i s h1 h2 (.slice A n c) n xs ho
    refine ⟨A, c, w, hr, by rw [List.append_nil]; exact hown, fun h => absurd h (Nat.lt_irrefl _), ⟨rfl, rfl, rfl, Nat.le_refl _, fun _ _ _ => rfl⟩, fun b hb => .inl hb, fun h => by omega⟩
  | some ad =>
    have hc := hc ad rfl
    have form : ∀ {v' : Value} {w' : World} {K k : Nat} {zs : List Value}, w'.ownsRow K t s v' k zs → ∃ A' c', v' = .slice A' k c' := fun {v' w' K k zs} ho => by
      rcases ho.2 with ⟨hv, h0⟩ | ⟨g', c', cur, hv, _⟩
      · exact ⟨none, 0, by rw [hv, h0]⟩
      · exact ⟨_, _, hv⟩
    have blk : ∀ (A : Option Addr) (n c : Nat), (Value.slice A n c).ownBlock = A.map Addr.block := fun A n c => by cases A <;> rfl
    have grows : ∀ ga, A = some ga → c < n + m → ∃ A' c' w', (Builtin.append_ #[T, T] ty #[.slice A n c, .slice (some ad) m cc]).run Try.prog w = .ok (.slice A' (n + m) c') w' ∧ Of w' N t s A' (n + m) c' (xs ++ ys) ∧ (0 < m → w'.ownsRow N t s (.slice A' (n + m) c') (n + m) (xs ++ ys)) ∧ w.grownBy w' (A.map Addr.block) ∧ (∀ b, A'.map Addr.block = some b → A.map Addr.block = some b ∨ w.heap.size ≤ b) ∧ (c < n + m → w.grownBy w' none ∧ ∀ b, A'.map Addr.block = some b → w.heap.size ≤ b) := by
      intro ga hga hlt
      obtain ⟨v', w', hr, h8, h9⟩ := run_append_arg_grows (P := Try.prog) w T ty t i z s bytes h1 h2 h3 h4 h5 h6 h7 ga n c xs hown.len (hown.read.2 ga hga) ad m cc ys hn hc hlt b1 b2
      obtain ⟨A', c', rfl⟩ := form h8
      have h8' := World.ownsRow.mono h8 hN
      have hnew : ∀ b, A'.map Addr.block = some b → w.heap.size ≤ b := fun b hb => (World.ownsRow.lt h8 b (by rw [blk]; exact hb)).1
      subst hga
      exact ⟨A', c', w', hr, .inl h8', fun _ => h8', ⟨h9.os, h9.tape, h9.output, h9.size, fun k hk _ => h9.block k hk (by simp)⟩, fun b hb => .inr (hnew b hb), fun _ => ⟨h9, hnew⟩⟩
    by_cases hlt : c < n + m ∧ ∃ ga, A = some ga
    · obtain ⟨hlt, ga, hga⟩ := hlt
      exact grows ga hga hlt
    · rcases hown with hown | ⟨rfl, hl, hm, g, cur, rfl, hg, hh, hs, ht⟩
      · obtain ⟨v', w', hr, h8, h9, _, h10⟩ := run_append_own_at (P := Try.prog) w N T ty t i z s bytes h1 h2 h3 h4 h5 h6 h7 (.slice A n c) n xs hown ad m cc ys hn hc h1c b1 b2 hN
        obtain ⟨A', c', rfl⟩ := form h8
        rw [blk] at h9 h10
        rw [blk] at h10
        have hnew : ∀ b, A'.map Addr.block = some b → A.map Addr.block = some b ∨ w.heap.size ≤ b := fun b hb => by
          rcases h10 with h10 | h10
          · exact .inl (by rw [← h10]; exact hb)
          · rw [h10] at hb
            right
            have := Option.some.inj hb
            omega
        refine ⟨A', c', w', hr, .inl h8, fun _ => h8, h9, hnew, fun hlt2 => ?_⟩
        cases A with
        | none => exact ⟨h9, fun b hb => (hnew b hb).elim (fun h => by cases h) id⟩
        | some ga => exact absurd ⟨hlt2, ga, rfl⟩ hlt
      · have h0 : m = 0 := by
          apply Decidable.byContradiction
          intro h0
          exact hlt ⟨by omega, _, rfl⟩
        subst h0
        have hy : ys = [] := List.eq_nil_of_length_eq_zero (by simpa using hn)
        subst hy
        have hr := run_append_room_cells (P := Try.prog) w T ty t i h1 h2 g 0 c c ad 0 cc [] (by simp) (fun j u hu => by simp at hu) (by simp) (by omega) (fun j hj => by simp at hj) (fun j hj => by simp at hj)
        refine ⟨some ⟨g, 0, none⟩, c, _, hr, ?_, fun h => absurd h (Nat.lt_irrefl _), ?_, fun b hb => .inl hb, fun h => by omega⟩
        · rw [List.append_nil]
          exact .inr ⟨rfl, hl, hm, g, cur, rfl, hg, hh, hs, ht⟩
        · exact ⟨rfl, rfl, rfl, Nat.le_refl _, fun _ _ _ => rfl⟩
theorem wp_app_any {o : Oper} {a : Act} {K : Act → World → Prop} {Q : Exit → Act → World → Prop} (w : World) (sa x : Operand) (T : TypeId)
    (ho : o.op = .call { callee := .builtin .append, args := #[sa, x], argTypes := #[T, T] })
    (t : TypeId) (i : TypeInfo) (z : Value) (s bytes : Nat) (h1 : Try.prog.underlying T = some (.slice t)) (h2 : Try.prog.info? t = some i) (h3 : i.zero = some z) (h4 : i.size = s) (h5 : i.bytes = bytes) (h6 : z.cells.size = s) (h7 : 0 < s)
    (N : Nat) (A : Option Addr) (n c : Nat) (xs : List Value) (hs : a.eval sa = .slice A n c) (hown : Of w N t s A n c xs) (B : Option Addr) (m cc : Nat) (ys : List Value) (hx : a.eval x = .slice B m cc) (hn : ys.length = m * s) (hB : B = none → m = 0 ∧ cc = 0 ∧ w.ownsRow N t s (.slice A n c) n xs) (hc : ∀ ad, B = some ad → ∀ j u, ys[j]? = some u → w.cell? (ad.add j) = some u) (h1c : ∀ u ∈ ys, u.oneCell' = true)
    (b1 : n + m ≤ maxLen) (b2 : (n + m) * bytes ≤ 140737488355328) (hN : N ≤ w.heap.size)
    (h : ∀ A' c' w', Of w' N t s A' (n + m) c' (xs ++ ys) → (0 < m → w'.ownsRow N t s (.slice A' (n + m) c') (n + m) (xs ++ ys)) → w.grownBy w' (A.map Addr.block) → (∀ b, A'.map Addr.block = some b → A.map Addr.block = some b ∨ w.heap.size ≤ b) → (c < n + m → w.grownBy w' none ∧ ∀ b, A'.map Addr.block = some b → w.heap.size ≤ b) → K (a.put o.dst (.slice A' (n + m) c')) w') : o.wp Try.prog a w K Q := by
  obtain ⟨A', c', w', hr, h8, h9, h10, h11, h12⟩ := run_app_any w T o.type t i z s bytes h1 h2 h3 h4 h5 h6 h7 N A n c xs hown B m cc ys hn hB hc h1c b1 b2 hN
  unfold Oper.wp execOp
  simp only [ho, resolve, invoke, builtin, Sem.run_bind, Sem.run_pure, Result.andThen_ok, List.map_toArray, List.map_cons, List.map_nil, hs, hx, hr]
  exact h A' c' w' h8 h9 h10 h11 h12
/-- At the list of a plain region's operations. -/
theorem app_any {ops : Array Oper} {rest : List Oper} {o : Oper} {a : Act} {Q : Exit → Act → World → Prop} (w : World) (hgd : o.guard = none) (sa x : Operand) (T : TypeId)
    (ho : o.op = .call { callee := .builtin .append, args := #[sa, x], argTypes := #[T, T] })
    (t : TypeId) (i : TypeInfo) (z : Value) (s bytes : Nat) (h1 : Try.prog.underlying T = some (.slice t)) (h2 : Try.prog.info? t = some i) (h3 : i.zero = some z) (h4 : i.size = s) (h5 : i.bytes = bytes) (h6 : z.cells.size = s) (h7 : 0 < s)
    (N : Nat) (A : Option Addr) (n c : Nat) (xs : List Value) (hs : a.eval sa = .slice A n c) (hown : Of w N t s A n c xs) (B : Option Addr) (m cc : Nat) (ys : List Value) (hx : a.eval x = .slice B m cc) (hn : ys.length = m * s) (hB : B = none → m = 0 ∧ cc = 0 ∧ w.ownsRow N t s (.slice A n c) n xs) (hc : ∀ ad, B = some ad → ∀ j u, ys[j]? = some u → w.cell? (ad.add j) = some u) (h1c : ∀ u ∈ ys, u.oneCell' = true)
    (b1 : n + m ≤ maxLen) (b2 : (n + m) * bytes ≤ 140737488355328) (hN : N ≤ w.heap.size)
    (h : ∀ A' c' w', Of w' N t s A' (n + m) c' (xs ++ ys) → (0 < m → w'.ownsRow N t s (.slice A' (n + m) c') (n + m) (xs ++ ys)) → w.grownBy w' (A.map Addr.block) → (∀ b, A'.map Addr.block = some b → A.map Addr.block = some b ∨ w.heap.size ≤ b) → (c < n + m → w.grownBy w' none ∧ ∀ b, A'.map Addr.block = some b → w.heap.size ≤ b) → wpList Try.prog ops Q rest (a.put o.dst (.slice A' (n + m) c')) w') :
    wpList Try.prog ops Q (o :: rest) a w :=
  wpList_plain hgd fun _ hK => wp_app_any w sa x T ho t i z s bytes h1 h2 h3 h4 h5 h6 h7 N A n c xs hs hown B m cc ys hx hn hB hc h1c b1 b2 hN fun A' c' w' h8 h9 h10 h11 h12 => hK _ _ (h A' c' w' h8 h9 h10 h11 h12)
/-- At a step of a region that draws. -/
theorem step_app_any {ops : Array Oper} {o : Oper} {a : Act} {K : Act → World → Prop} {Q : Exit → Act → World → Prop} {E : Prop} (W : World) (hgd : o.guard = none) (sa x : Operand) (T : TypeId)
    (ho : o.op = .call { callee := .builtin .append, args := #[sa, x], argTypes := #[T, T] })
    (t : TypeId) (i : TypeInfo) (z : Value) (s bytes : Nat) (h1 : Try.prog.underlying T = some (.slice t)) (h2 : Try.prog.info? t = some i) (h3 : i.zero = some z) (h4 : i.size = s) (h5 : i.bytes = bytes) (h6 : z.cells.size = s) (h7 : 0 < s)
    (W0 : World) (hg : W0.grownBy W none) (N : Nat) (A : Option Addr) (n c : Nat) (xs : List Value) (hs : a.eval sa = .slice A n c) (hown : Of W0 N t s A n c xs) (B : Option Addr) (m cc : Nat) (ys : List Value) (hx : a.eval x = .slice B m cc) (hn : ys.length = m * s) (hB : B = none → m = 0 ∧ cc = 0 ∧ W.ownsRow N t s (.slice A n c) n xs) (hc : ∀ ad, B = some ad → ∀ j u, ys[j]? = some u → W.cell? (ad.add j) = some u) (h1c : ∀ u ∈ ys, u.oneCell' = true)
    (b1 : n + m ≤ maxLen) (b2 : (n + m) * bytes ≤ 140737488355328) (hN : N ≤ W0.heap.size)
    (h : ∀ A' c' w', Of w' N t s A' (n + m) c' (xs ++ ys) → (0 < m → w'.ownsRow N t s (.slice A' (n + m) c') (n + m) (xs ++ ys)) → Touch (fun b => A.map Addr.block = some b) W0 w' → (∀ b, A'.map Addr.block = some b → A.map Addr.block = some b ∨ W0.heap.size ≤ b) → (c < n + m → Below W0.heap.size W0 w' ∧ ∀ b, A'.map Addr.block = some b → W0.heap.size ≤ b) → K (a.put o.dst (.slice A' (n + m) c')) w') :
    if Region.wanted o (yielded ops a.tmps) = true then Oper.wp Try.prog o a W K Q else E := by
  have hw : Region.wanted o (yielded ops a.tmps) = true := by simp [Region.wanted, hgd]
  rw [if_pos hw]
  have hof : Of W N t s A n c xs := hown.block fun g hA => hg.block g (by
    rcases hown.obj with ⟨hA', _⟩ | ⟨g', cur, hA', _, hl, _⟩
    · rw [hA'] at hA
      cases hA
    · rw [hA'] at hA
      cases hA
      exact hl) (by simp)
  refine wp_app_any W sa x T ho t i z s bytes h1 h2 h3 h4 h5 h6 h7 N A n c xs hs hof B m cc ys hx hn hB hc h1c b1 b2 (Nat.le_trans hN hg.size) fun A' c' w' h8 h9 h10 h11 h12 => h A' c' w' h8 h9 ?_ (fun b hb => ?_) fun hlt => ?_
  · refine ⟨h10.os.trans hg.os, h10.tape.trans hg.tape, h10.output.trans hg.output, Nat.le_trans hg.size h10.size, fun b hb hn => ?_⟩
    exact (h10.block b (Nat.lt_of_lt_of_le hb hg.size) fun e => hn e.symm).trans (hg.block b hb (by simp))
  · rcases h11 b hb with h | h
    · exact .inl h
    · exact .inr (Nat.le_trans hg.size h)
  · obtain ⟨h13, h14⟩ := h12 hlt
    exact ⟨⟨h13.os.trans hg.os, h13.tape.trans hg.tape, h13.output.trans hg.output, Nat.le_trans hg.size h13.size, fun b hb => (h13.block b (Nat.lt_of_lt_of_le hb hg.size) (by simp)).trans (hg.block b hb (by simp))⟩, fun b hb => Nat.le_trans hg.size (h14 b hb)⟩
end Go.Proofs.Ytmlchbohijolaaa.Ar

namespace Go.Proofs.Ytmlchbohijolaaa.Ar
set_option maxRecDepth 100000
set_option linter.unusedSimpArgs false
set_option linter.unusedVariables false
open Go.RowKit Ba
open Ro (At Ro Cw ros Rr Ow Nw Fr Att Ap Sh Ra cells acells len_acells acells_one app_num below_new infoI info_row info_attr len_cells)
open To (Aw)
theorem one_cells {W : World} {g0 : Nat} {v : Value} {t : TypeId} (h : W.heap[g0]? = some (.cells #[v] t)) : ∀ ad, some (⟨g0, 0, none⟩ : Addr) = some ad → ∀ j u, [v][j]? = some u → W.cell? (ad.add j) = some u := fun ad ha j u hu => by
  cases ha
  exact World.news_of_block (cs := #[v]) h j u hu
theorem grown_dN11 {w w' : World} {r : Option Nat} (h : w.grownBy w' r) (n : Nat) : w.grownBy (w'.drewN n) r := ⟨h.1, h.2, h.3, h.4, h.5⟩
theorem grown_refl (w : World) (r : Option Nat) : w.grownBy w r := ⟨rfl, rfl, rfl, Nat.le_refl _, fun _ _ _ => rfl⟩
theorem tail_cells {N : Nat} {A : Option Addr} {c s : Nat} {t : TypeId} {n : Nat} {xs : List Value} {w : World} (h : Of w N t s A n c xs) (k : Nat) {w' : World} (hb : Below w.heap.size w w') (ad : Addr) (hA : Option.map (fun x : Addr => x.add k) A = some ad) (j : Nat) (u : Value) (hu : (xs.drop k)[j]? = some u) : w'.cell? (ad.add j) = some u := by
  rcases h.obj with ⟨hA', _⟩ | ⟨g, cur, hA', _, hl, _⟩
  · rw [hA'] at hA
    cases hA
  · rw [hA'] at hA
    cases hA
    rw [List.getElem?_drop] at hu
    have := (h.cells hA' (k + j) u hu).1
    have e : ((⟨g, 0, none⟩ : Addr).add k).add j = ⟨g, k + j, none⟩ := by rw [WideShapes.add_plain, WideShapes.add_plain, Nat.zero_add]
    rw [e]
    exact (hb.cell (p := ⟨g, k + j, none⟩) hl).trans this
theorem below_t11 {N : Nat} {w w3 w4 : World} {G : Nat → Prop} (h : Below N w w3) (t : Touch G w3 w4) (hG : ∀ b, G b → N ≤ b) (hN : N ≤ w3.heap.size) : Below N w w4 :=
  ⟨t.os.trans h.os, t.tape.trans h.tape, t.output.trans h.output, Nat.le_trans h.size t.size, fun b hb => (t.block b (by omega) fun hg => by have := hG b hg; omega).trans (h.block b hb)⟩
theorem put_nv (l : List Nat) (k one : Nat) : (l.map nv).take k ++ [nv one] ++ (l.map nv).drop k = (putAt10 l k one).map nv := by
  unfold putAt10
  simp [List.map_take, List.map_drop]
theorem put_len (l : List Nat) (k one : Nat) : (putAt10 l k one).length = l.length + 1 := by
  unfold putAt10
  simp
  omega
set_option maxRecDepth 100000 in
set_option maxHeartbeats 2000000 in
theorem withI1 {N : Nat} {A : Option Addr} {c : Nat} {l : List Nat} (k one : Nat) (w : World) (h : OK w N A c l) (hk : k ≤ l.length) (hl : l.length ≤ 2000000) (hN : N ≤ w.heap.size) :
    Calls Try.prog 65 #[.slice A l.length c, .int .i64 k, .int .i64 one] w fun e w' => ∃ A' c', e = .returned (.slice A' (l.length + 1) c') ∧ OK w' N A' c' (putAt10 l k one) ∧ Below w.heap.size w w' ∧ ∀ b, blkOf A' = some b → w.heap.size ≤ b := by
  obtain ⟨i0, hi, hz0, hz1, hz2⟩ := info_parts infoI
  obtain ⟨hn, hc⟩ := Of.cap h
  have hcut : Of w N 3 1 A k k ((l.map nv).take (k * 1)) := Of.cut h hk
  have HCUT := Lib.hid hcut
  have h1 : (k : Int) ≤ c := by omega
  have h2 : (0 : Int) ≤ k := by omega
  have h3 : (k : Int) ≤ l.length := by omega
  have HH := Lib.hid h
  have HOF := Lib.hid (show Of w N 3 1 A l.length c (l.map nv) from h)
  have HAN := Lib.hid (Of.read h).1
  clear h hcut
  by_cases hck : c = k
  · have hkl : k = l.length := by omega
    subst hkl
    subst hck
    have HH3 := Lib.hid (show ([] : List Value).length = 0 * 1 from rfl)
    go_enter Try.func65, Try.ntmps65
    go_wp2
    go_region_held3 (fun _ => True) (first | trivial | go_keep) (first
      | (go_at_call 83; refine (aheadI1 A l.length l.length l.length _ hk hn hc).mono ?_; rintro e w1 ⟨rfl, rfl⟩)
      | (refine step_app_any _ (by rfl) (.tmp 9) (.tmp 11) 28 (by rfl) 3 i0 _ 1 8 Try.underlying28 hi hz0 hz1 hz2 rfl (by decide) w (by first | exact World.grownBy_alloc _ _ _ | exact grown_dN11 (World.grownBy_alloc _ _ _) 1 | exact (grown_dN11 (grown_refl w none) 1).trans (World.grownBy_alloc _ _ _)) N A l.length l.length ((l.map nv).take (l.length * 1)) (by simp [Act.eval, Act.put]) HCUT.out (some ⟨w.heap.size, 0, none⟩) 1 1 [nv one] (by simp [Act.eval, Act.put]) rfl (by simp) (one_cells (World.alloc_heap_new _ _)) (nv_one [one]) (by unfold maxLen; omega) (by omega) hN ?_; intro A3 c3 w3 ho3 hr3 ht3 hb3 hg3; have HO3 := Lib.hid ho3; have HR3 := Lib.hid (hr3 (by decide)); have HG3 := Lib.hid (hg3 (by omega)); clear ho3 hr3 ht3 hb3 hg3)
      | (refine step_app_any _ (by rfl) (.tmp 12) (.tmp 15) 28 (by rfl) 3 i0 _ 1 8 Try.underlying28 hi hz0 hz1 hz2 rfl (by decide) w3 (by first | exact grown_refl _ _ | exact grown_dN11 (grown_refl _ _) 1) N A3 (l.length + 1) c3 ((l.map nv).take (l.length * 1) ++ [nv one]) (by simp [Act.eval, Act.put]) HO3.out A 0 0 [] (by simp [Act.eval, Act.put]) rfl (fun e => ⟨rfl, rfl, by first | exact HR3.out | exact World.ownsRow.drew HR3.out⟩) (fun ad hA j u hu => by simp at hu) (fun u hu => by simp at hu) (by unfold maxLen; omega) (by omega) (by have := HG3.out.1.size; omega) ?_; intro A4 c4 w4 ho4 hr4 ht4 hb4 hg4)
      | fail)
    all_goals go_wp2_with fail
    all_goals go_ret
    all_goals
      have hof4 : OK w4 N A4 c4 (putAt10 l l.length one) := by
        unfold OK
        rw [put_len, ← put_nv, List.drop_eq_nil_of_le (by simp)]
        simpa using ho4
      have hb := below_t11 HG3.out.1 ht4 (fun b hb => HG3.out.2 b hb) HG3.out.1.size
      exact ⟨A4, c4, rfl, hof4, hb, fun b hb' => (hb4 b hb').elim (HG3.out.2 b) (fun h => Nat.le_trans HG3.out.1.size h)⟩
  · have hck1 : ¬ k = c := fun e => hck e.symm
    have hck2 : ¬ c - k = 0 := by omega
    have hck3 : ¬ (c : Int) = k := by omega
    have hck4 : ¬ (k : Int) = c := by omega
    have HBN := Lib.hid (show Option.map (fun x : Addr => x.add k) A ≠ none from fun e => by
      cases A with
      | none => have := (HAN.out rfl).2; omega
      | some a => cases e)
    go_enter Try.func65, Try.ntmps65
    go_wp2
    go_region_held3 (fun _ => True) (first | trivial | go_keep) (first
      | (go_at_call 83; refine (aheadI1 A l.length c k _ hk hn hc).mono ?_; rintro e w1 ⟨rfl, rfl⟩)
      | (refine step_app_any _ (by rfl) (.tmp 9) (.tmp 11) 28 (by rfl) 3 i0 _ 1 8 Try.underlying28 hi hz0 hz1 hz2 rfl (by decide) w (by first | exact World.grownBy_alloc _ _ _ | exact grown_dN11 (World.grownBy_alloc _ _ _) 1 | exact (grown_dN11 (grown_refl w none) 1).trans (World.grownBy_alloc _ _ _)) N A k k ((l.map nv).take (k * 1)) (by simp [Act.eval, Act.put]) HCUT.out (some ⟨w.heap.size, 0, none⟩) 1 1 [nv one] (by simp [Act.eval, Act.put]) rfl (by simp) (one_cells (World.alloc_heap_new _ _)) (nv_one [one]) (by unfold maxLen; omega) (by omega) hN ?_; intro A3 c3 w3 ho3 hr3 ht3 hb3 hg3; have HO3 := Lib.hid ho3; have HG3 := Lib.hid (hg3 (by omega)); clear ho3 hr3 ht3 hb3 hg3)
      | (refine step_app_any _ (by rfl) (.tmp 12) (.tmp 15) 28 (by rfl) 3 i0 _ 1 8 Try.underlying28 hi hz0 hz1 hz2 rfl (by decide) w3 (by first | exact grown_refl _ _ | exact grown_dN11 (grown_refl _ _) 1) N A3 (k + 1) c3 ((l.map nv).take (k * 1) ++ [nv one]) (by simp [Act.eval, Act.put]) HO3.out (Option.map (fun x : Addr => x.add k) A) (l.length - k) (c - k) ((l.map nv).drop k) (by simp [Act.eval, Act.put]) (by simp) (fun e => absurd e HBN.out) (fun ad hA j u hu => tail_cells HOF.out k (by first | exact HG3.out.1 | exact below_dN11 HG3.out.1 1) ad hA j u hu) (fun u hu => nv_one l u (List.mem_of_mem_drop hu)) (by unfold maxLen; omega) (by omega) (by have := HG3.out.1.size; omega) ?_; intro A4 c4 w4 ho4 hr4 ht4 hb4 hg4)
      | fail)
    all_goals go_wp2_with fail
    all_goals go_ret
    all_goals
      have hle : k + 1 + (l.length - k) = l.length + 1 := by omega
      have hof4 : OK w4 N A4 c4 (putAt10 l k one) := by
        unfold OK
        rw [put_len, ← put_nv, ← hle, ← Nat.mul_one k]
        simpa using ho4
      have hb := below_t11 HG3.out.1 ht4 (fun b hb => HG3.out.2 b hb) HG3.out.1.size
      exact ⟨A4, c4, by rw [← hle]; rfl, hof4, hb, fun b hb' => (hb4 b hb').elim (HG3.out.2 b) (fun h => Nat.le_trans HG3.out.1.size h)⟩
end Go.Proofs.Ytmlchbohijolaaa.Ar

namespace Go.Proofs.Ytmlchbohijolaaa.Ar
set_option maxRecDepth 100000
set_option linter.unusedSimpArgs false
set_option linter.unusedVariables false
open Go.RowKit Ba
open Ro (At Ro Cw ros Rr Ow Nw Fr Att Ap Sh Ra cells acells len_acells acells_one app_num below_new infoI info_row info_attr len_cells)
open To (Aw)
theorem flat_take {α : Type} (f : α → List Value) (m : Nat) (hm : ∀ x, (f x).length = m) : ∀ (l : List α) (k : Nat), (l.flatMap f).take (k * m) = (l.take k).flatMap f
  | [], k => by simp
  | x :: r, 0 => by simp
  | x :: r, k + 1 => by
    rw [List.flatMap_cons, List.take_succ_cons, List.flatMap_cons, List.take_append, hm, show (k + 1) * m - m = k * m from by rw [Nat.add_mul]; omega, flat_take f m hm r k, List.take_of_length_le (by rw [hm, Nat.add_mul]; omega)]
theorem flat_drop {α : Type} (f : α → List Value) (m : Nat) (hm : ∀ x, (f x).length = m) : ∀ (l : List α) (k : Nat), (l.flatMap f).drop (k * m) = (l.drop k).flatMap f
  | [], k => by simp
  | x :: r, 0 => by simp
  | x :: r, k + 1 => by
    rw [List.flatMap_cons, List.drop_succ_cons, List.drop_append, hm, show (k + 1) * m - m = k * m from by rw [Nat.add_mul]; omega, flat_drop f m hm r k, List.drop_eq_nil_of_le (by rw [hm, Nat.add_mul]; omega), List.nil_append]
set_option maxRecDepth 100000 in
set_option maxHeartbeats 2000000 in
theorem withoutI1 {N : Nat} {A : Option Addr} {c : Nat} {l : List Nat} (k : Nat) (w : World) (h : Of w N 3 1 A l.length c (l.map nv)) (hk : k < l.length) (hl : l.length ≤ 2000000) (hN : N ≤ w.heap.size) :
    Calls Try.prog 70 #[.slice A l.length c, .int .i64 k] w fun e w' => ∃ A' c', e = .returned (.slice A' (l.length - 1) c') ∧ Of w' N 3 1 A' (l.length - 1) c' ((l.eraseIdx k).map nv) ∧ Touch (fun b => blkOf A = some b) w w' ∧ ∀ b, blkOf A' = some b → blkOf A = some b ∨ w.heap.size ≤ b := by
  obtain ⟨i0, hi, hz0, hz1, hz2⟩ := info_parts infoI
  obtain ⟨hn, hc⟩ := Of.cap h
  have hcut : Of w N 3 1 A k k ((l.map nv).take (k * 1)) := Of.cut h (by omega)
  have HCUT := Lib.hid hcut
  have h1 : (k : Int) ≤ c := by omega
  have h2 : (0 : Int) ≤ k := by omega
  have h3 : (k : Int) ≤ l.length := by omega
  obtain ⟨k1, hk1⟩ : ∃ k1, k + 1 = k1 := ⟨_, rfl⟩
  have h1' : (k1 : Int) ≤ c := by omega
  have h2' : (0 : Int) ≤ (k1 : Int) := by omega
  have h3' : (k1 : Int) ≤ l.length := by omega
  have hwr : IntKind.i64.wrap ((k : Int) + 1) = (k1 : Int) := by
    rw [IntWalk.i64_in _ (by unfold maxLen at hc; omega)]
    omega
  have hkk : k ≤ l.length := by omega
  have hkk1 : k ≤ k1 := by omega
  have HOF := Lib.hid (show Of w N 3 1 A l.length c (l.map nv) from h)
  have HAN := Lib.hid (show A ≠ none from fun e => by have := (Of.read h).1 e; omega)
  have HLEN := Lib.hid (show ((l.map nv).drop (k1 * 1)).length = (l.length - k1) * 1 from by
    rw [List.length_drop, Of.len h, Nat.sub_mul])
  have hres : (l.map nv).take (k * 1) ++ (l.map nv).drop (k1 * 1) = (l.eraseIdx k).map nv := by
    rw [List.eraseIdx_eq_take_drop_succ, hk1]
    rw [List.map_append, List.map_take, List.map_drop, Nat.mul_one, Nat.mul_one]
  have HRES := Lib.hid hres
  have HK1 := Lib.hid hk1
  clear h hcut hres
  by_cases hck : c = k1
  · have hkl : l.length = k1 := by omega
    have hln : (l.length - k1) = 0 := by omega
    have hl1 : l.length - 1 = k := by omega
    rw [hln] at HLEN
    rw [hl1]
    have HLN0 := Lib.hid (List.eq_nil_of_length_eq_zero (HLEN.out.trans (Nat.zero_mul _)))
    rw [HLN0.out, List.append_nil] at HRES
    subst hck
    rw [hkl]
    clear HLEN HLN0 hln hl1 h3 h3'
    go_enter Try.func70, Try.ntmps70
    go_wp2
    go_region_held3 (fun _ => True) (first | trivial | go_keep) (first
      | (go_at_call 83; refine (aheadI1 A c c k _ hkk1 (Nat.le_refl _) hc).mono ?_; rintro e w1 ⟨rfl, rfl⟩)
      | (refine step_app_any _ (by rfl) (.tmp 7) (.tmp 11) 28 (by rfl) 3 i0 _ 1 8 Try.underlying28 hi hz0 hz1 hz2 rfl (by decide) w (by first | exact grown_refl _ _ | exact grown_dN11 (grown_refl _ _) 1) N A k k ((l.map nv).take (k * 1)) (by simp [Act.eval, Act.put]) HCUT.out A 0 0 [] (by simp [Act.eval, Act.put]) rfl (fun e => absurd e HAN.out) (fun ad hA j u hu => by simp at hu) (fun u hu => by simp at hu) (by unfold maxLen; omega) (by omega) hN ?_; intro A4 c4 w4 ho4 hr4 ht4 hb4 hg4)
      | fail)
    all_goals go_wp2_with fail
    all_goals go_ret
    all_goals
      refine ⟨A4, c4, rfl, ?_, ht4, hb4⟩
      rw [← HRES.out]
      simpa using ho4
  · have hck1 : ¬ k1 = c := fun e => hck e.symm
    have hck2 : ¬ c - k1 = 0 := by omega
    have hck3 : ¬ (c : Int) = (k1 : Int) := by omega
    have hck4 : ¬ (k1 : Int) = c := by omega
    have HBN := Lib.hid (show Option.map (fun x : Addr => x.add k1) A ≠ none from fun e => by
      cases A with
      | none => exact HAN.out rfl
      | some a => cases e)
    go_enter Try.func70, Try.ntmps70
    go_wp2
    go_region_held3 (fun _ => True) (first | trivial | go_keep) (first
      | (go_at_call 83; refine (aheadI1 A l.length c k _ hkk hn hc).mono ?_; rintro e w1 ⟨rfl, rfl⟩)
      | (refine step_app_any _ (by rfl) (.tmp 7) (.tmp 11) 28 (by rfl) 3 i0 _ 1 8 Try.underlying28 hi hz0 hz1 hz2 rfl (by decide) w (by first | exact grown_refl _ _ | exact grown_dN11 (grown_refl _ _) 1) N A k k ((l.map nv).take (k * 1)) (by simp [Act.eval, Act.put]) HCUT.out (Option.map (fun x : Addr => x.add k1) A) (l.length - k1) (c - k1) ((l.map nv).drop (k1 * 1)) (by simp [Act.eval, Act.put]) HLEN.out (fun e => absurd e HBN.out) (fun ad hA j u hu => tail_cells HOF.out (k1 * 1) (by first | exact Below.refl _ _ | exact below_dN11 (Below.refl _ _) 1) ad (by rw [Nat.mul_one]; exact hA) j u hu) (fun u hu => nv_one l u (List.mem_of_mem_drop hu)) (by unfold maxLen; omega) (by omega) hN ?_; intro A4 c4 w4 ho4 hr4 ht4 hb4 hg4)
      | fail)
    all_goals go_wp2_with fail
    all_goals go_ret
    all_goals
      have hle : k + (l.length - k1) = l.length - 1 := by omega
      refine ⟨A4, c4, by rw [← hle]; rfl, ?_, ht4, hb4⟩
      rw [← HRES.out, ← hle]
      exact ho4
set_option maxRecDepth 100000 in
set_option maxHeartbeats 2000000 in
theorem withoutA1 {N : Nat} {A : Option Addr} {c : Nat} {l : List At} (k : Nat) (w : World) (h : Of w N 63 2 A l.length c (l.flatMap acells)) (hk : k < l.length) (hl : l.length ≤ 2000000) (hN : N ≤ w.heap.size) :
    Calls Try.prog 67 #[.slice A l.length c, .int .i64 k] w fun e w' => ∃ A' c', e = .returned (.slice A' (l.length - 1) c') ∧ Of w' N 63 2 A' (l.length - 1) c' ((l.eraseIdx k).flatMap acells) ∧ Touch (fun b => blkOf A = some b) w w' ∧ ∀ b, blkOf A' = some b → blkOf A = some b ∨ w.heap.size ≤ b := by
  obtain ⟨i0, hi, hz0, hz1, hz2⟩ := info_parts info_attr
  obtain ⟨hn, hc⟩ := Of.cap h
  have hcut : Of w N 63 2 A k k ((l.flatMap acells).take (k * 2)) := Of.cut h (by omega)
  have HCUT := Lib.hid hcut
  have h1 : (k : Int) ≤ c := by omega
  have h2 : (0 : Int) ≤ k := by omega
  have h3 : (k : Int) ≤ l.length := by omega
  obtain ⟨k1, hk1⟩ : ∃ k1, k + 1 = k1 := ⟨_, rfl⟩
  have h1' : (k1 : Int) ≤ c := by omega
  have h2' : (0 : Int) ≤ (k1 : Int) := by omega
  have h3' : (k1 : Int) ≤ l.length := by omega
  have hwr : IntKind.i64.wrap ((k : Int) + 1) = (k1 : Int) := by
    rw [IntWalk.i64_in _ (by unfold maxLen at hc; omega)]
    omega
  have hkk : k ≤ l.length := by omega
  have hkk1 : k ≤ k1 := by omega
  have HOF := Lib.hid (show Of w N 63 2 A l.length c (l.flatMap acells) from h)
  have HAN := Lib.hid (show A ≠ none from fun e => by have := (Of.read h).1 e; omega)
  have HLEN := Lib.hid (show ((l.flatMap acells).drop (k1 * 2)).length = (l.length - k1) * 2 from by
    rw [List.length_drop, Of.len h, Nat.sub_mul])
  have hres : (l.flatMap acells).take (k * 2) ++ (l.flatMap acells).drop (k1 * 2) = (l.eraseIdx k).flatMap acells := by
    rw [List.eraseIdx_eq_take_drop_succ, hk1]
    rw [List.flatMap_append, flat_take acells 2 len_acells, flat_drop acells 2 len_acells]
  have HRES := Lib.hid hres
  have HK1 := Lib.hid hk1
  clear h hcut hres
  by_cases hck : c = k1
  · have hkl : l.length = k1 := by omega
    have hln : (l.length - k1) = 0 := by omega
    have hl1 : l.length - 1 = k := by omega
    rw [hln] at HLEN
    rw [hl1]
    have HLN0 := Lib.hid (List.eq_nil_of_length_eq_zero (HLEN.out.trans (Nat.zero_mul _)))
    rw [HLN0.out, List.append_nil] at HRES
    subst hck
    rw [hkl]
    clear HLEN HLN0 hln hl1 h3 h3'
    go_enter Try.func67, Try.ntmps67
    go_wp2
    go_region_held3 (fun _ => True) (first | trivial | go_keep) (first
      | (go_at_call 84; refine (aheadA1 A c c k _ hkk1 (Nat.le_refl _) hc).mono ?_; rintro e w1 ⟨rfl, rfl⟩)
      | (refine step_app_any _ (by rfl) (.tmp 7) (.tmp 11) 61 (by rfl) 63 i0 _ 2 32 Try.underlying61 hi hz0 hz1 hz2 rfl (by decide) w (by first | exact grown_refl _ _ | exact grown_dN11 (grown_refl _ _) 1) N A k k ((l.flatMap acells).take (k * 2)) (by simp [Act.eval, Act.put]) HCUT.out A 0 0 [] (by simp [Act.eval, Act.put]) rfl (fun e => absurd e HAN.out) (fun ad hA j u hu => by simp at hu) (fun u hu => by simp at hu) (by unfold maxLen; omega) (by omega) hN ?_; intro A4 c4 w4 ho4 hr4 ht4 hb4 hg4)
      | fail)
    all_goals go_wp2_with fail
    all_goals go_ret
    all_goals
      refine ⟨A4, c4, rfl, ?_, ht4, hb4⟩
      rw [← HRES.out]
      simpa using ho4
  · have hck1 : ¬ k1 = c := fun e => hck e.symm
    have hck2 : ¬ c - k1 = 0 := by omega
    have hck3 : ¬ (c : Int) = (k1 : Int) := by omega
    have hck4 : ¬ (k1 : Int) = c := by omega
    have HBN := Lib.hid (show Option.map (fun x : Addr => x.add (k1 * 2)) A ≠ none from fun e => by
      cases A with
      | none => exact HAN.out rfl
      | some a => cases e)
    go_enter Try.func67, Try.ntmps67
    go_wp2
    go_region_held3 (fun _ => True) (first | trivial | go_keep) (first
      | (go_at_call 84; refine (aheadA1 A l.length c k _ hkk hn hc).mono ?_; rintro e w1 ⟨rfl, rfl⟩)
      | (refine step_app_any _ (by rfl) (.tmp 7) (.tmp 11) 61 (by rfl) 63 i0 _ 2 32 Try.underlying61 hi hz0 hz1 hz2 rfl (by decide) w (by first | exact grown_refl _ _ | exact grown_dN11 (grown_refl _ _) 1) N A k k ((l.flatMap acells).take (k * 2)) (by simp [Act.eval, Act.put]) HCUT.out (Option.map (fun x : Addr => x.add (k1 * 2)) A) (l.length - k1) (c - k1) ((l.flatMap acells).drop (k1 * 2)) (by simp [Act.eval, Act.put]) HLEN.out (fun e => absurd e HBN.out) (fun ad hA j u hu => tail_cells HOF.out (k1 * 2) (by first | exact Below.refl _ _ | exact below_dN11 (Below.refl _ _) 1) ad hA j u hu) (fun u hu => acells_one l u (List.mem_of_mem_drop hu)) (by unfold maxLen; omega) (by omega) hN ?_; intro A4 c4 w4 ho4 hr4 ht4 hb4 hg4)
      | fail)
    all_goals go_wp2_with fail
    all_goals go_ret
    all_goals
      have hle : k + (l.length - k1) = l.length - 1 := by omega
      refine ⟨A4, c4, by rw [← hle]; rfl, ?_, ht4, hb4⟩
      rw [← HRES.out, ← hle]
      exact ho4
end Go.Proofs.Ytmlchbohijolaaa.Ar

namespace Go.Proofs.Ytmlchbohijolaaa.Ar
set_option maxRecDepth 100000
set_option linter.unusedSimpArgs false
set_option linter.unusedVariables false
open Go.RowKit Ba
open Ro (At Ro Cw ros Rr Ow Nw Fr Att Ap Sh Ra cells acells len_acells acells_one app_num below_new infoI info_row info_attr len_cells rowV rowO)
open To (Aw)
theorem own_one {e : TypeId} {size base : Nat} (w : World) (cur : Array Value) (hb : base ≤ w.heap.size) (hs : cur.size = size) :
    (w.alloc (.cells cur e)).ownsRow base e size (.slice (some ⟨w.heap.size, 0, none⟩) 1 1) 1 cur.toList :=
  own_full w cur cur.toList hb (by decide) (by rw [hs, Nat.one_mul]) rfl
def e00 : Ew := ⟨⟨ro00, none, 0⟩, -1, none, 0, []⟩
set_option maxRecDepth 100000 in
theorem newP1 (w : World) : Calls Try.prog 10 #[] w fun e w' => ∃ p F, e = .returned (.pointer (some ⟨p, 0, none⟩)) ∧ Doc12 w' w.heap.size F p M0 ∧ Below w.heap.size w w' ∧ ∀ b, F b → w.heap.size ≤ b := by
  have hx0 := own_one (e := 71) (size := 7) (base := w.heap.size) w #[.int .i64 0, .int .i64 0, .string ⟨#[]⟩, .string ⟨#[]⟩, .slice none 0 0, .int .i64 (-1), .slice none 0 0] (Nat.le_refl _) rfl
  obtain ⟨w1, hw1⟩ : ∃ w1, w.alloc (.cells #[.int .i64 0, .int .i64 0, .string ⟨#[]⟩, .string ⟨#[]⟩, .slice none 0 0, .int .i64 (-1), .slice none 0 0] 71) = w1 := ⟨_, rfl⟩
  have hs1 : w1.heap.size = w.heap.size + 1 := by rw [← hw1]; simp
  have hb1 : Below w.heap.size w w1 := hw1 ▸ below_new w _
  rw [hw1] at hx0
  obtain ⟨o4, ho4⟩ : ∃ o4 : Obj, o4 = .cells #[.slice (some ⟨w.heap.size, 0, none⟩) 1 1] 74 := ⟨_, rfl⟩
  obtain ⟨w4, hw4⟩ : ∃ w4, w1.alloc o4 = w4 := ⟨_, rfl⟩
  have hs4 : w4.heap.size = w.heap.size + 1 + 1 := by rw [← hw4]; simp [hs1]
  have hb4 : Below w1.heap.size w1 w4 := hw4 ▸ below_new w1 _
  have hbox : w4.heap[w.heap.size + 1]? = some o4 := by rw [← hw4, ← hs1]; exact heap_alloc_new w1 _
  have hB := bt hb1 hb4
  have HW := Lib.hid (show (w.alloc (.cells #[.int .i64 0, .int .i64 0, .string ⟨#[]⟩, .string ⟨#[]⟩, .slice none 0 0, .int .i64 (-1), .slice none 0 0] 71)).alloc (.cells #[.slice (some ⟨w.heap.size, 0, none⟩) 1 1] 74) = w4 from by rw [hw1, ← ho4, hw4])
  have hX : w4.ownsRow w.heap.size 71 7 (.slice (some ⟨w.heap.size, 0, none⟩) 1 1) 1 (([e00] : List Ew).flatMap ecells) := owns_block hx0 fun g hg => by
    obtain rfl : w.heap.size = g := Option.some.inj hg
    rw [hb4.block _ (by omega)]
  have hRP : PD w4 w.heap.size (fun b => w.heap.size ≤ b ∧ b < w4.heap.size) (w.heap.size + 1) M0 w.heap.size 1 [e00] := by
    refine ⟨ho4 ▸ hbox, hX, fun x hx => ?_, fun x hx => ?_, List.pairwise_singleton _ _, List.pairwise_singleton _ _, rfl, by omega, ⟨by omega, by omega⟩, ⟨by omega, by omega⟩, fun b hb => hb.2⟩
    · rw [List.mem_singleton] at hx
      subst hx
      exact ⟨⟨.inl (World.ownsRow_nil _ _ _ _), fun x hx => by cases hx⟩, fun g hg => by cases hg⟩
    · rw [List.mem_singleton] at hx
      subst hx
      exact ⟨.inl (World.ownsRow_nil _ _ _ _), fun g hg => by cases hg⟩
  have HB := Lib.hid hB; have HRP := Lib.hid hRP
  clear hX hRP hB hbox hs4 hb4 hw4 ho4 hx0 hb1 hs1 hw1
  go_enter Try.func10, Try.ntmps10
  go_wp2
  go_ret
  rw [HW.out]
  exact ⟨w.heap.size + 1, _, rfl, ⟨_, _, _, HRP.out⟩, HB.out, fun b hb => hb.1⟩

section
variable {w w' : World} {N : Nat} {F : Nat → Prop} {p gE cE : Nat} {M : List Nd} {lE : List Ew}
/-- A new entry behind the others. -/
theorem PD.grow (h : PD w N F p M gE cE lE) {e' : Ew} (t : Touch (fun b => b = gE) w w') {g' c' : Nat} {M' : List Nd} (hM : M' = M ++ [nodeOf e'])
    (ho : w'.ownsRow N 71 7 (.slice (some ⟨g', 0, none⟩) (M.length + 1) c') (M.length + 1) ((lE ++ [e']).flatMap ecells)) (hg : g' = gE ∨ w.heap.size ≤ g')
    (ha : OA w' N e'.x) (hA : ∀ g, bA e' = some g → w.heap.size ≤ g) (hk : e'.K = none ∧ e'.kc = 0 ∧ e'.kids = []) :
    PD (w'.setCell ⟨p, 0, none⟩ (.slice (some ⟨g', 0, none⟩) (M.length + 1) c')) N (Wide w w' F) p M' g' c' (lE ++ [e']) ∧ Next w (w'.setCell ⟨p, 0, none⟩ (.slice (some ⟨g', 0, none⟩) (M.length + 1) c')) F (Wide w w' F) := by
  obtain ⟨_, hgl, _, _, ce, fe, hoE⟩ := h.obj
  have hpE := type_ne h.box hoE (by decide)
  have hbox := (t.block p h.p_lt hpE).trans h.box
  obtain ⟨w2, hw2⟩ : ∃ w2, w'.setCell ⟨p, 0, none⟩ (.slice (some ⟨g', 0, none⟩) (M.length + 1) c') = w2 := ⟨_, rfl⟩
  have hb2 : ∀ b, b ≠ p → w2.heap[b]? = w'.heap[b]? := fun b hb => hw2 ▸ Below.heap_setCell _ _ _ _ hb
  have hs2 : w2.heap.size = w'.heap.size := by rw [← hw2]; simp [World.setCell]
  have hne : ∀ {g : Nat} {c f} {tt : TypeId}, w'.heap[g]? = some (.cells c tt f) → tt ≠ 74 → g ≠ p := fun hh ht => type_ne hh hbox ht
  have hgo : g' < w'.heap.size ∧ ∃ c f, w'.heap[g']? = some (.cells c 71 f) := by
    obtain ⟨_, h2, c, f, h3⟩ := owns_lt ho (g := g') rfl
    refine ⟨h2, ?_⟩
    rcases ho.2 with ⟨hv, _⟩ | ⟨g'', cap, cur, hv, _, hh, _⟩
    · cases hv
    · injection hv with hv
      injection hv with hv
      injection hv with hv
      rw [← hv] at hh
      exact ⟨_, _, hh⟩
  obtain ⟨hgl', _, _, hgo⟩ := hgo
  have aA : ∀ b ∈ lE, ∀ g, bA b = some g → g < w.heap.size ∧ g ≠ gE := fun b hb g hg => by
    obtain ⟨_, _, h3, _, _, hh⟩ := oa_obj (h.attrs b hb).1 hg
    exact ⟨h3, type_ne hh hoE (by decide)⟩
  have aK : ∀ b ∈ lE, ∀ g, bK b = some g → g < w.heap.size ∧ g ≠ gE := fun b hb g hg => by
    obtain ⟨_, _, h3, _, _, hh⟩ := ok_obj (h.kids b hb).1 hg
    exact ⟨h3, type_ne hh hoE (by decide)⟩
  have oA : ∀ b ∈ lE, OA w' N b.x := fun b hb => (h.attrs b hb).1.block fun g hg => t.block g (aA b hb g hg).1 (aA b hb g hg).2
  have oK : ∀ b ∈ lE, OK w' N b.K b.kc b.kids := fun b hb => (h.kids b hb).1.block fun g hg => t.block g (aK b hb g hg).1 (aK b hb g hg).2
  have hl' : M'.length = M.length + 1 := by rw [hM, List.length_append]; rfl
  rw [hw2]
  refine ⟨⟨?_, ?_, fun b hb => ?_, fun b hb => ?_, ?_, ?_, ?_, h.low, .inl h.fp, ?_, fun b hb => ?_⟩, ⟨?_, fun b hb => .inl hb, fun b hb => ?_⟩⟩
  · rw [hl', ← hw2]
    simp [World.setCell, Array.getElem?_modify, hbox]
  · rw [hl']
    exact owns_block ho fun g hg => by
      obtain rfl : g' = g := Option.some.inj hg
      exact hb2 g' (hne hgo (by decide))
  · rcases List.mem_append.1 hb with hb | hb
    · refine ⟨(oA b hb).block fun g hg => ?_, fun g hg => .inl ((h.attrs b hb).2 g hg)⟩
      obtain ⟨_, _, _, _, _, hh⟩ := oa_obj (oA b hb) hg
      exact hb2 g (hne hh (by decide))
    · rw [List.mem_singleton] at hb
      subst hb
      refine ⟨ha.block fun g hg => ?_, fun g hg => .inr ⟨hA g hg, ?_⟩⟩
      · obtain ⟨_, _, _, _, _, hh⟩ := oa_obj ha hg
        exact hb2 g (hne hh (by decide))
      · exact (oa_obj ha hg).2.2.1
  · rcases List.mem_append.1 hb with hb | hb
    · refine ⟨(oK b hb).block fun g hg => ?_, fun g hg => .inl ((h.kids b hb).2 g hg)⟩
      obtain ⟨_, _, _, _, _, hh⟩ := ok_obj (oK b hb) hg
      exact hb2 g (hne hh (by decide))
    · rw [List.mem_singleton] at hb
      subst hb
      obtain ⟨k1, k2, k3⟩ := hk
      rw [k1, k2, k3]
      exact ⟨.inl (World.ownsRow_nil _ _ _ _), fun g hg => by unfold bK at hg; rw [k1] at hg; cases hg⟩
  · unfold Apart
    rw [List.pairwise_append]
    refine ⟨h.apA, List.pairwise_singleton _ _, fun a ha' b hb g hg hg2 => ?_⟩
    rw [List.mem_singleton] at hb
    subst hb
    have h5 := hA g hg2
    have h6 := (aA a ha' g hg).1
    omega
  · unfold Apart
    rw [List.pairwise_append]
    refine ⟨h.apK, List.pairwise_singleton _ _, fun a ha' b hb g hg hg2 => ?_⟩
    rw [List.mem_singleton] at hb
    subst hb
    unfold bK at hg2
    rw [hk.1] at hg2
    cases hg2
  · rw [hM, List.map_append, h.same]
    rfl
  · rcases hg with hg | hg
    · rw [hg]
      exact .inl h.fe
    · exact .inr ⟨hg, hgl'⟩
  · rw [hs2]
    rcases hb with hb | hb
    · exact Nat.lt_of_lt_of_le (h.bd b hb) t.size
    · exact hb.2
  · have t1 : Touch F w w' := t.mono fun b _ e => e ▸ h.fe
    exact t1.trans (hw2 ▸ Touch.set (F := F) w' ⟨p, 0, none⟩ _ h.fp) fun _ _ h => h
  · rw [hs2]
    exact hb
end
end Go.Proofs.Ytmlchbohijolaaa.Ar

namespace Go.Proofs.Ytmlchbohijolaaa.Ar
set_option maxRecDepth 100000
set_option linter.unusedSimpArgs false
set_option linter.unusedVariables false
open Go.RowKit Ba
open Ro (At Ro Cw ros Rr Ow Nw Fr Att Ap Sh Ra cells acells len_acells acells_one app_num below_new infoI info_row info_attr len_cells rowV rowO)
open To (Aw)
theorem block_cells {W : World} {g0 : Nat} {cs : Array Value} {t : TypeId} (h : W.heap[g0]? = some (.cells cs t)) : ∀ ad, some (⟨g0, 0, none⟩ : Addr) = some ad → ∀ j u, cs.toList[j]? = some u → W.cell? (ad.add j) = some u := fun ad ha j u hu => by
  cases ha
  exact World.news_of_block (cs := cs) h j u hu
theorem own_head {w : World} {N s n c : Nat} {t : TypeId} {A : Option Addr} {xs : List Value} (h : w.ownsRow N t s (.slice A n c) n xs) (hn : 0 < n) : ∃ g, A = some ⟨g, 0, none⟩ := by
  rcases h.2 with ⟨_, h0⟩ | ⟨g, cap, cur, hv, _⟩
  · omega
  · injection hv with h1
    exact ⟨g, h1⟩
theorem touch_cell {G : Nat → Prop} {w w' : World} (t : Touch G w w') {b : Nat} (hb : b < w.heap.size) (hn : ¬ G b) (j : Nat) : w'.cell? ⟨b, j, none⟩ = w.cell? ⟨b, j, none⟩ ∧ w'.frozen? ⟨b, j, none⟩ = w.frozen? ⟨b, j, none⟩ :=
  ⟨World.cell?_of_block (a := ⟨b, j, none⟩) (t.block b hb hn), World.frozen?_of_block (a := ⟨b, j, none⟩) (t.block b hb hn)⟩
set_option maxRecDepth 100000 in
set_option maxHeartbeats 4000000 in
theorem addP1 {p N : Nat} {F : Nat → Prop} {M : List Nd} (y : Cw) (w : World) (D : Doc12 w N F p M) (hm : M.length ≤ 5000) (hy : Att w w.heap.size y) (hl : y.ro.attrs.length ≤ 2000000) :
    Calls Try.prog 41 #[.pointer (some ⟨p, 0, none⟩), rowV y] w fun e w' => e = .returned (.int .i64 M.length) ∧ ∃ F', Doc12 w' N F' p (addM M y.ro) ∧ Next w w' F F' := by
  obtain ⟨gE, cE, lE, D⟩ := D
  obtain ⟨i0, hi, hz0, hz1, hz2⟩ := info_parts info_ent
  have hb1 := below_new w (rowO y)
  have HCP := Lib.hid (copiedA1 y (w.alloc (rowO y)) (hy.boxed (Below.refl _ _) (rowO y)) hl)
  have HD := Lib.hid D
  have hb0 := Ro.box_at w y
  have HBX := Lib.hid (heap_alloc_new w (rowO y))
  have HB1 := Lib.hid hb1
  have hpl := D.p_lt
  clear D hb1 hy
  have hc4 : (w.alloc (rowO y)).cell? ⟨w.heap.size, 4, none⟩ = some (.slice y.A y.ro.attrs.length y.c) := hb0 4
  clear hb0
  go_enter Try.func41, Try.ntmps41
  go_wp2_with fail
  refine HCP.out.mono ?_
  rintro e w1 ⟨v, rfl, haw, hb2⟩
  obtain ⟨A1, c1, rfl⟩ := haw.form
  have hbk := fun j => Ro.box_kept hb2 j
  have hob1 : w1.heap[w.heap.size]? = some (rowO y) := (hb2.block _ (by simp)).trans HBX.out
  have hf4 := box_frozen hob1 4
  have hk4 : w1.cell? ⟨w.heap.size, 4, none⟩ = some (.slice y.A y.ro.attrs.length y.c) := hbk 4
  have hb3 := bt HB1.out hb2
  obtain ⟨z, hz⟩ : ∃ z : Cw, z = ⟨y.ro, A1, c1⟩ := ⟨_, rfl⟩
  have hob2 : (w1.setCell ⟨w.heap.size, 4, none⟩ (.slice A1 y.ro.attrs.length c1)).heap[w.heap.size]? = some (rowO z) := by
    rw [hz]
    simp [World.setCell, Array.getElem?_modify, hob1]
  have hb4 := hb3.setCell (p := ⟨w.heap.size, 4, none⟩) (Nat.le_refl _) (.slice A1 y.ro.attrs.length c1)
  have haw4 : Aw w.heap.size (w1.setCell ⟨w.heap.size, 4, none⟩ (.slice A1 y.ro.attrs.length c1)) (.slice A1 y.ro.attrs.length c1) y.ro.attrs := by
    refine ⟨owns_block (World.ownsRow.mono haw.1 (by simp)) fun g hg => Below.heap_setCell _ _ _ _ fun e => ?_, haw.2⟩
    have := (owns_lt haw.1 hg).1
    have e : g = w.heap.size := e
    simp at this
    omega
  obtain ⟨w2, hw2⟩ : ∃ w2, w1.setCell ⟨w.heap.size, 4, none⟩ (.slice A1 y.ro.attrs.length c1) = w2 := ⟨_, rfl⟩
  rw [hw2] at hob2 hb4 haw4
  have hzc := fun j => cell_of_row w2 w.heap.size j _ _ _ hob2
  have D2 := HD.out.below hb4
  have x2 := D2.x
  have q0 : w2.cell? ⟨w.heap.size, 0, none⟩ = some (.int .i64 y.ro.depth) := by rw [hzc 0, hz]; rfl
  have q1 : w2.cell? ⟨w.heap.size, 1, none⟩ = some (.int .i64 y.ro.kind) := by rw [hzc 1, hz]; rfl
  have q2 : w2.cell? ⟨w.heap.size, 2, none⟩ = some (.string y.ro.name) := by rw [hzc 2, hz]; rfl
  have q3 : w2.cell? ⟨w.heap.size, 3, none⟩ = some (.string y.ro.data) := by rw [hzc 3, hz]; rfl
  have q4 : w2.cell? ⟨w.heap.size, 4, none⟩ = some (.slice A1 y.ro.attrs.length c1) := by rw [hzc 4, hz]; rfl
  have HW2 := Lib.hid hw2; have HB4 := Lib.hid hb4; have HAW := Lib.hid haw4; have HD2 := Lib.hid D2; have HOB := Lib.hid hob2
  clear hzc hw2 hob1 hbk hb3 hb4 haw4 haw hb2 D2 hob2 HCP HB1 HBX
  go_upto_region 1 with (fail)
  rw [HW2.out]
  clear hc4 hk4 hf4
  have HEO := Lib.hid (ecells_one [⟨z, -1, none, 0, []⟩])
  have HN := Lib.hid HD2.out.hN
  have HZ := Lib.hid hz
  have HOFE := Lib.hid (show Of w2 N 71 7 (some ⟨gE, 0, none⟩) M.length cE (lE.flatMap ecells) from .inl HD2.out.ents)
  have hkeep : ∀ w', Touch (fun b => (some ⟨gE, 0, none⟩ : Option Addr).map Addr.block = some b) w2 w' → ∀ j, w'.cell? ⟨p, j, none⟩ = w2.cell? ⟨p, j, none⟩ ∧ w'.cell? ⟨w.heap.size, j, none⟩ = w2.cell? ⟨w.heap.size, j, none⟩ ∧ w'.frozen? ⟨p, j, none⟩ = false := fun w' t j => by
    obtain ⟨_, _, _, _, cc, ff, hoE⟩ := HD2.out.obj
    have h1 : ¬ (some ⟨gE, 0, none⟩ : Option Addr).map Addr.block = some p := fun e => type_ne hoE HD2.out.box (by decide) (Option.some.inj e)
    have h2 : ¬ (some ⟨gE, 0, none⟩ : Option Addr).map Addr.block = some w.heap.size := fun e => type_ne hoE HOB.out (by decide) (Option.some.inj e)
    have hlt := (Array.getElem?_eq_some_iff.1 HOB.out).1
    obtain ⟨h3, h4⟩ := touch_cell t HD2.out.p_lt h1 j
    exact ⟨h3, (touch_cell t hlt h2 j).1, h4.trans (box_frozen HD2.out.box j)⟩
  have HK := Lib.hid hkeep
  clear hz hkeep
  go_cut [] from 9 to 19 (fun wx => ∃ g5 c5 w5, wx = w5.setCell ⟨p, 0, none⟩ (.slice (some ⟨g5, 0, none⟩) (M.length + 1) c5) ∧ w5.ownsRow N 71 7 (.slice (some ⟨g5, 0, none⟩) (M.length + 1) c5) (M.length + 1) (lE.flatMap ecells ++ [.int .i64 y.ro.depth, .int .i64 y.ro.kind, .string y.ro.name, .string y.ro.data, .slice A1 y.ro.attrs.length c1, .int .i64 (-1), .slice none 0 0]) ∧ Touch (fun b => b = gE) w2 w5 ∧ (g5 = gE ∨ w2.heap.size ≤ g5))
  case first =>
    have xA := ((below_new w2 (.cells #[.int .i64 y.ro.depth, .int .i64 y.ro.kind, .string y.ro.name, .string y.ro.data, .slice A1 y.ro.attrs.length c1, .int .i64 (-1), .slice none 0 0] 71)).cell (p := ⟨p, 0, none⟩) HD2.out.p_lt).trans x2
    go_region_law (refine step_app_any _ (by rfl) (.tmp 13) (.tmp 16) 72 (by rfl) 71 i0 _ 7 104 Try.underlying72 hi hz0 hz1 hz2 rfl (by decide) w2 (by first | exact World.grownBy_alloc w2 _ _ | exact (World.grownBy_alloc w2 _ _).trans (grown_dN11 (grown_refl _ none) 1) | exact (grown_dN11 (grown_refl w2 none) 1).trans (World.grownBy_alloc _ _ _)) N (some ⟨gE, 0, none⟩) M.length cE (lE.flatMap ecells) (by simp [Act.eval, Act.put]) HOFE.out (some ⟨w2.heap.size, 0, none⟩) 1 1 [.int .i64 y.ro.depth, .int .i64 y.ro.kind, .string y.ro.name, .string y.ro.data, .slice A1 y.ro.attrs.length c1, .int .i64 (-1), .slice none 0 0] (by simp [Act.eval, Act.put]) rfl (by simp) (block_cells (World.alloc_heap_new _ _)) (by simp [Value.oneCell']) (by unfold maxLen; omega) (by omega) HN.out ?_; intro A5 c5 w5 ho5 hr5 ht5 hb5 hg5; obtain ⟨g5, rfl⟩ := own_head (hr5 (by decide)) (by omega); have HR5 := Lib.hid (hr5 (by decide)); have HT5 := Lib.hid ht5; have HB5 := Lib.hid hb5; have d0 := ((HK.out w5 ht5) 0).1.trans x2; have dF := ((HK.out w5 ht5) 0).2.2; clear ho5 hr5 ht5 hb5 hg5)
    all_goals go_simp
    all_goals go_wp2_with fail
    all_goals go_meet
    all_goals exact ⟨g5, c5, w5, rfl, HR5.out, HT5.out.mono fun b _ e => (Option.some.inj e).symm, (HB5.out g5 rfl).imp (fun e => (Option.some.inj e).symm) id⟩
  case rest =>
  obtain ⟨g5, c5, w5, rfl, ho5, ht5, hg5⟩ := hcut
  have hT : Touch (fun b => b = gE) w w5 := (Touch.of_below HB4.out).trans ht5 fun _ _ h => h
  have hsz4 := HB4.out.size
  have hfz : OA w5 N z := by
    have h1 : Fr w.heap.size w2 z := by
      rw [HZ.out]
      exact HAW.out
    have h2 : OA w2 N z := ⟨(Fr.oa h1).1.mono HD.out.hN, h1.2⟩
    refine h2.block fun g hg => ?_
    obtain ⟨_, _, h3, _, _, hh⟩ := oa_obj h2 hg
    obtain ⟨_, _, _, _, _, _, hoE⟩ := HD2.out.obj
    exact ht5.block g h3 (type_ne hh hoE (by decide))
  have hzA : ∀ g, bA ⟨z, -1, none, 0, []⟩ = some g → w.heap.size ≤ g := fun g hg => by
    have h1 : Fr w.heap.size w2 z := by
      rw [HZ.out]
      exact HAW.out
    exact (oa_obj (Fr.oa h1) hg).2.1
  obtain ⟨P6, N6⟩ := HD.out.grow (e' := ⟨z, -1, none, 0, []⟩) (w' := w5) hT (M' := addM M y.ro) (g' := g5) (c' := c5) (by unfold addM nodeOf; rw [HZ.out]) (by
    rw [List.flatMap_append]
    have : ([⟨z, -1, none, 0, []⟩] : List Ew).flatMap ecells = [.int .i64 y.ro.depth, .int .i64 y.ro.kind, .string y.ro.name, .string y.ro.data, .slice A1 y.ro.attrs.length c1, .int .i64 (-1), .slice none 0 0] := by
      rw [HZ.out]
      rfl
    rw [this]
    exact ho5) (hg5.imp id fun h => by omega) hfz hzA ⟨rfl, rfl, rfl⟩
  obtain ⟨w6, hw6⟩ : ∃ w6, w5.setCell ⟨p, 0, none⟩ (.slice (some ⟨g5, 0, none⟩) (M.length + 1) c5) = w6 := ⟨_, rfl⟩
  rw [hw6] at P6 N6
  rw [hw6]
  have x6 := P6.x
  rw [len_add] at x6
  have HP6 := Lib.hid P6; have HN6 := Lib.hid N6
  clear P6 N6 hw6 hT hfz hzA ho5 ht5 hg5 x2 q0 q1 q2 q3 q4
  go_wp2
  go_ret
  exact ⟨ret_int (by omega), _, ⟨_, _, _, HP6.out⟩, HN6.out⟩
end Go.Proofs.Ytmlchbohijolaaa.Ar

namespace Go.Proofs.Ytmlchbohijolaaa.Ar
set_option maxRecDepth 100000
set_option linter.unusedSimpArgs false
set_option linter.unusedVariables false
open Go.RowKit Ba
open Ro (At Ro Cw ros Rr Ow Nw Fr Att Ap Sh Ra cells acells len_acells acells_one app_num below_new infoI info_row info_attr len_cells rowV rowO)
open To (Aw)
theorem filter_none {M : List Nd} (W : Wf M) {n : Nat} (hup : (nd M n).up = -1) (p : Nat) : (nd M p).kids.filter (· != n) = (nd M p).kids := by
  rw [List.filter_eq_self]
  intro c hc
  rw [bne_iff_ne]
  intro e
  subst e
  have := ((W.kid p c).1 hc).2
  omega
section
variable {w w' : World} {N : Nat} {F : Nat → Prop} {p gE cE : Nat} {M : List Nd} {lE : List Ew}
theorem PD.kidsOf (D : PD w N F p M gE cE lE) {k : Nat} (hk : k < M.length) : ∃ e, lE[k]? = some e ∧ nodeOf e = nd M k ∧ e.kids = (nd M k).kids ∧ OK w N e.K e.kc e.kids ∧ OA w N e.x ∧ w.cell? ⟨gE, k * 7 + 6, none⟩ = some (.slice e.K e.kids.length e.kc) ∧ w.cell? ⟨gE, k * 7 + 5, none⟩ = some (.int .i64 (nd M k).up) ∧ w.cell? ⟨gE, k * 7 + 4, none⟩ = some (.slice e.x.A e.x.ro.attrs.length e.x.c) := by
  obtain ⟨e, h1, h2, h3, h4⟩ := D.at_ hk
  refine ⟨e, h1, h3, by rw [← h3]; rfl, (D.kids e h2).1, (D.attrs e h2).1, h4 6 _ rfl, ?_, h4 4 _ rfl⟩
  rw [← h3]
  exact h4 5 _ rfl
end
set_option maxRecDepth 100000 in
set_option maxHeartbeats 4000000 in
theorem adoptP1 {p N : Nat} {F : Nat → Prop} {M : List Nd} (P n : Nat) (w : World) (D : Doc12 w N F p M) (W : Wf M) (hm : M.length ≤ 5000) (hP : P < M.length) (hn : n < M.length) (hne : P ≠ n) (hup : (nd M n).up = -1) :
    Calls Try.prog 82 #[.pointer (some ⟨p, 0, none⟩), .int .i64 P, .int .i64 n] w fun e w' => e = .returned (.tuple #[]) ∧ ∃ F', Doc12 w' N F' p (setM M P (nd M P).kids.length n) ∧ Next w w' F F' := by
  obtain ⟨gE, cE, lE, D⟩ := D
  obtain ⟨i0, hi, hz0, hz1, hz2⟩ := info_parts infoI
  obtain ⟨e, he, hen, hek, hok, hoa, c6, c5, c4⟩ := D.kidsOf hP
  have hx := D.x
  have hcap := D.obj.2.2.1
  have hkl : e.kids.length ≤ 5000 := by
    rw [hek]
    exact Nat.le_trans (nodup_bound (W.nodup P) fun x hx => ((W.kid P x).1 hx).1) hm
  have HD := Lib.hid D
  have HOK := Lib.hid (show Of w N 3 1 e.K e.kids.length e.kc (e.kids.map nv) from hok)
  have HE := Lib.hid he; have HEN := Lib.hid hen; have HEK := Lib.hid hek; have HOA := Lib.hid hoa
  have hgl := D.obj.2.1
  have xA := ((below_new w (.cells #[.int .i64 n] 3)).cell (p := ⟨p, 0, none⟩) D.p_lt).trans hx
  have cA := ((below_new w (.cells #[.int .i64 n] 3)).cell (p := ⟨gE, P * 7 + 6, none⟩) hgl).trans c6
  have hPi : (P : Int) < M.length := by omega
  have hkeep : ∀ w', Touch (fun b => e.K.map Addr.block = some b) w w' → ∀ j, w'.cell? ⟨p, j, none⟩ = w.cell? ⟨p, j, none⟩ ∧ w'.cell? ⟨gE, j, none⟩ = w.cell? ⟨gE, j, none⟩ ∧ w'.frozen? ⟨gE, j, none⟩ = false := fun w' t j => by
    obtain ⟨_, _, _, _, cc, ff, hoE⟩ := D.obj
    have h1 : ¬ e.K.map Addr.block = some p := fun hb => by
      obtain ⟨_, _, _, _, _, hh⟩ := ok_obj hok hb
      exact type_ne hh D.box (by decide) rfl
    have h2 : ¬ e.K.map Addr.block = some gE := fun hb => by
      obtain ⟨_, _, _, _, _, hh⟩ := ok_obj hok hb
      exact type_ne hh hoE (by decide) rfl
    obtain ⟨h3, h4⟩ := touch_cell t hgl h2 j
    exact ⟨(touch_cell t D.p_lt h1 j).1, h3, h4.trans (D.frz j)⟩
  have HK := Lib.hid hkeep; have HN := Lib.hid D.hN
  clear D hok hoa he hen hek hkeep c5 c4
  go_enter Try.func82, Try.ntmps82
  go_wp2
  go_cut [] from 6 to 23 (fun wx => ∃ g5 c5 w5, wx = w5.setCell ⟨gE, P * 7 + 6, none⟩ (.slice (some ⟨g5, 0, none⟩) (e.kids.length + 1) c5) ∧ Of w5 N 3 1 (some ⟨g5, 0, none⟩) (e.kids.length + 1) c5 (e.kids.map nv ++ [nv n]) ∧ Touch (fun b => e.K.map Addr.block = some b) w w5 ∧ (e.K.map Addr.block = some g5 ∨ w.heap.size ≤ g5))
  case first =>
    go_region_law (refine step_app_any _ (by rfl) (.tmp 18) (.tmp 20) 28 (by rfl) 3 i0 _ 1 8 Try.underlying28 hi hz0 hz1 hz2 rfl (by decide) w (by first | exact World.grownBy_alloc w _ _ | exact (World.grownBy_alloc w _ _).trans (grown_dN11 (grown_refl _ none) 1) | exact (grown_dN11 (grown_refl w none) 1).trans (World.grownBy_alloc _ _ _)) N e.K e.kids.length e.kc (e.kids.map nv) (by simp [Act.eval, Act.put]) HOK.out (some ⟨w.heap.size, 0, none⟩) 1 1 [nv n] (by simp [Act.eval, Act.put]) rfl (by simp) (one_cells (World.alloc_heap_new _ _)) (nv_one [n]) (by unfold maxLen; omega) (by omega) HN.out ?_; intro A5 c5 w5 ho5 hr5 ht5 hb5 hg5; obtain ⟨g5, rfl⟩ := own_head (hr5 (by decide)) (by omega); have HO5 := Lib.hid ho5; have HT5 := Lib.hid ht5; have HB5 := Lib.hid hb5; have d0 := ((HK.out w5 ht5) 0).1.trans hx; have d6 := ((HK.out w5 ht5) (P * 7 + 6)).2.1.trans c6; have dF := ((HK.out w5 ht5) (P * 7 + 6)).2.2; clear ho5 hr5 ht5 hb5 hg5)
    all_goals go_simp
    all_goals go_wp2_with fail
    all_goals go_meet
    all_goals exact ⟨g5, c5, w5, rfl, HO5.out, HT5.out, HB5.out g5 rfl⟩
  case rest =>
  obtain ⟨g5, c5, w5, rfl, ho5, ht5, hb5⟩ := hcut
  have HO5 := Lib.hid ho5; have HT5 := Lib.hid ht5; have HB5 := Lib.hid hb5
  clear ho5 ht5 hb5
  obtain ⟨w6, hw6⟩ : ∃ w6, w5.setCell ⟨gE, P * 7 + 6, none⟩ (.slice (some ⟨g5, 0, none⟩) (e.kids.length + 1) c5) = w6 := ⟨_, rfl⟩
  rw [hw6]
  have hl1 : (e.kids ++ [n]).length = e.kids.length + 1 := by simp
  have hoaw : OA w5 N e.x := HOA.out.block fun g hg => by
    obtain ⟨_, _, h3, _, _, hh⟩ := oa_obj HOA.out hg
    exact HT5.out.block g h3 fun hb => by
      obtain ⟨_, _, _, _, _, hh2⟩ := ok_obj HOK.out hb
      exact type_ne hh hh2 (by decide) rfl
  have hokw : OK w5 N (some ⟨g5, 0, none⟩) c5 (e.kids ++ [n]) := by
    unfold OK
    rw [hl1, List.map_append]
    exact HO5.out
  obtain ⟨P6, N6⟩ := HD.out.put (e' := ⟨e.x, e.up, some ⟨g5, 0, none⟩, c5, e.kids ++ [n]⟩) HE.out (w' := w5) (HT5.out.mono fun b _ hb => .inr hb) (j := 6) (by decide) (.slice (some ⟨g5, 0, none⟩) (e.kids.length + 1) c5) (by rw [← hl1]; rfl) hoaw hokw (fun g hg => .inl hg) (fun g hg => by
    cases hg
    exact HB5.out)
  rw [hw6] at P6 N6
  have hl6 : (M.set P (nodeOf ⟨e.x, e.up, some ⟨g5, 0, none⟩, c5, e.kids ++ [n]⟩)).length = M.length := List.length_set
  obtain ⟨e2, he2, hen2, _, hok2, hoa2, _, c5', _⟩ := P6.kidsOf (k := n) (by rw [hl6]; exact hn)
  have x6 := P6.x
  rw [hl6] at x6
  have f6 := P6.frz (n * 7 + 5)
  obtain ⟨P7, N7⟩ := P6.put (e' := ⟨e2.x, P, e2.K, e2.kc, e2.kids⟩) he2 (w' := w6) (Touch.refl _ _) (j := 5) (by decide) (.int .i64 P) rfl hoa2 hok2 (fun g hg => .inl hg) (fun g hg => .inl hg)
  have HP7 := Lib.hid P7; have HN7 := Lib.hid (N6.trans N7); have HEN2 := Lib.hid hen2
  have hni : (n : Int) < M.length := by omega
  clear P6 N6 P7 N7 hw6 hoaw hokw hl6 he2 hok2 hoa2 hen2 hx c6 xA cA
  go_wp2
  first | go_end0 | refine bodyPost_ret (results_none rfl _ _ _) rfl ?_
  have hM : setM M P (nd M P).kids.length n = (M.set P (nodeOf ⟨e.x, e.up, some ⟨g5, 0, none⟩, c5, e.kids ++ [n]⟩)).set n (nodeOf ⟨e2.x, P, e2.K, e2.kc, e2.kids⟩) := by
    refine ext_nd (by rw [len_set, List.length_set, List.length_set]) fun m hmm => ?_
    have hn2 := HEN2.out
    rw [nd_setL hP, if_neg (fun e => hne e.symm)] at hn2
    have r2 : ({ e2.x.ro with depth := 0 } : Ro) = (nd M n).ro := by rw [← hn2]; rfl
    have k2 : e2.kids = (nd M n).kids := by rw [← hn2]; rfl
    have r1 : ({ e.x.ro with depth := 0 } : Ro) = (nd M P).ro := by rw [← HEN.out]; rfl
    have u1 : e.up = (nd M P).up := by rw [← HEN.out]; rfl
    rw [nd_set hP hn, nd_setL (by rw [List.length_set]; exact hn), nd_setL hP, filter_none W hup]
    by_cases e1 : m = n
    · subst e1
      rw [if_pos rfl, if_neg (fun e => hne e.symm), if_pos rfl]
      unfold nodeOf
      simp only
      rw [r2, k2]
    · rw [if_neg e1, if_neg e1]
      by_cases e3 : m = P
      · subst e3
        rw [if_pos rfl, if_pos rfl]
        unfold nodeOf putAt10
        simp only
        rw [r1, u1, HEK.out, List.take_length, List.drop_length]
      · rw [if_neg e3, if_neg e3]
  rw [hM]
  exact ⟨rfl, _, ⟨_, _, _, HP7.out⟩, HN7.out⟩
end Go.Proofs.Ytmlchbohijolaaa.Ar

namespace Go.Proofs.Ytmlchbohijolaaa.Ar
set_option maxRecDepth 100000
set_option linter.unusedSimpArgs false
set_option linter.unusedVariables false
open Go.RowKit Ba
open Ro (At Ro Cw ros Rr Ow Nw Fr Att Ap Sh Ra cells acells app_num below_new infoI info_row len_cells rowV rowO)
open Na (mayB)
theorem makeable1 (k : Int) (n d : ByteArray) (w : World) (hs : n.size ≤ 140737488355328) (q : Bool) (hq : makeB k n d = q) :
    Calls Try.prog 39 #[.int .i64 k, .string n, .string d] w fun e w' => e = .returned (.bool q) ∧ w' = w := by
  have hR := Na.right_any n w hs
  obtain ⟨r, hr⟩ : ∃ r, Nm.rightB n = r := ⟨_, rfl⟩
  have hmr : mayB n false = r := hr
  rw [hr] at hR
  have HR := Lib.hid hR
  clear hR
  unfold makeB at hq
  rw [hmr] at hq
  subst hq
  clear hr hmr
  by_cases k0 : k = 0
  · subst k0
    cases r with
    | true =>
      have e : ((0 : Int) == 0 && true && d.toList.isEmpty || ((0 : Int) == 1 || (0 : Int) == 2) && n.toList.isEmpty) = d.toList.isEmpty := by simp
      rw [e]
      clear e
      cases hd : d.toList.isEmpty with
      | true =>
        go_enter Try.func39, Try.ntmps39
        go_wp2_with fail
        refine HR.out.mono ?_
        rintro e w1 ⟨rfl, rfl⟩
        go_wp2
        go_ret
        exact ⟨rfl, rfl⟩
      | false =>
        go_enter Try.func39, Try.ntmps39
        go_wp2_with fail
        refine HR.out.mono ?_
        rintro e w1 ⟨rfl, rfl⟩
        go_wp2
        go_ret
        exact ⟨rfl, rfl⟩
    | false =>
      have e : ((0 : Int) == 0 && false && d.toList.isEmpty || ((0 : Int) == 1 || (0 : Int) == 2) && n.toList.isEmpty) = false := by simp
      rw [e]
      clear e
      go_enter Try.func39, Try.ntmps39
      go_wp2_with fail
      refine HR.out.mono ?_
      rintro e w1 ⟨rfl, rfl⟩
      go_wp2
      go_ret
      exact ⟨rfl, rfl⟩
  · have a0 : (k == 0) = false := by simpa using k0
    rw [a0, Bool.false_and, Bool.false_and, Bool.false_or]
    by_cases k1 : k = 1
    · subst k1
      have e : (((1 : Int) == 1 || (1 : Int) == 2) && n.toList.isEmpty) = n.toList.isEmpty := by simp
      rw [e]
      clear e
      cases hn : n.toList.isEmpty with
      | true =>
        go_enter Try.func39, Try.ntmps39
        go_wp2
        go_ret
        exact ⟨rfl, rfl⟩
      | false =>
        go_enter Try.func39, Try.ntmps39
        go_wp2
        go_ret
        exact ⟨rfl, rfl⟩
    · by_cases k2 : k = 2
      · subst k2
        have e : (((2 : Int) == 1 || (2 : Int) == 2) && n.toList.isEmpty) = n.toList.isEmpty := by simp
        rw [e]
        clear e
        cases hn : n.toList.isEmpty with
        | true =>
          go_enter Try.func39, Try.ntmps39
          go_wp2
          go_ret
          exact ⟨rfl, rfl⟩
        | false =>
          go_enter Try.func39, Try.ntmps39
          go_wp2
          go_ret
          exact ⟨rfl, rfl⟩
      · have a1 : (k == 1) = false := by simpa using k1
        have a2 : (k == 2) = false := by simpa using k2
        rw [a1, a2, Bool.or_false, Bool.false_and]
        go_enter Try.func39, Try.ntmps39
        go_wp2
        go_ret
        exact ⟨rfl, rfl⟩
set_option maxRecDepth 100000 in
set_option maxHeartbeats 4000000 in
theorem makeP1 {p N : Nat} {F : Nat → Prop} {M : List Nd} (k : Int) (n d : ByteArray) (w : World) (D : Doc12 w N F p M) (hm : M.length ≤ 5000) (hs : n.size ≤ 140737488355328) :
    Calls Try.prog 14 #[.pointer (some ⟨p, 0, none⟩), .int .i64 k, .string n, .string d] w fun e w' => e = .returned (.tuple #[.int .i64 (makeE M k n d).1, .int .i64 (makeE M k n d).2]) ∧ ∃ F', Doc12 w' N F' p (makeM M k n d) ∧ Next w w' F F' := by
  have D0 := Lib.hid D
  obtain ⟨q, hq⟩ : ∃ q, makeB k n d = q := ⟨_, rfl⟩
  have HM := Lib.hid (makeable1 k n d w hs q hq)
  obtain ⟨gE, cE, lE, D⟩ := D
  obtain ⟨q2, hq2⟩ : ∃ q2, decide (4096 < M.length + 1) = q2 := ⟨_, rfl⟩
  have hx := exceeds1 1 w D (by omega) (by decide) q2 hq2
  have HX := Lib.hid (show Calls Try.prog 40 #[.pointer (some ⟨p, 0, none⟩), .int .i64 1] w fun e w' => e = .returned (.bool q2) ∧ w' = w from hx)
  clear D hx
  cases q with
  | false =>
    have e2 : makeE M k n d = (0, 1) := by unfold makeE; rw [hq]; rfl
    have e3 : makeM M k n d = M := by unfold makeM; rw [hq]; rfl
    rw [e2, e3]
    clear hq HX hq2 e2 e3
    go_enter Try.func14, Try.ntmps14
    go_wp2_with fail
    refine HM.out.mono ?_
    rintro e w1 ⟨rfl, rfl⟩
    go_wp2
    go_ret2
    exact ⟨rfl, F, D0.out, Next.refl w1 F⟩
  | true =>
    cases q2 with
    | true =>
      have hb := of_decide_eq_true hq2
      have e2 : makeE M k n d = (0, 2) := by unfold makeE; rw [hq, if_pos rfl, if_pos (by omega)]
      have e3 : makeM M k n d = M := by unfold makeM; rw [hq, decide_eq_false (by omega)]; rfl
      rw [e2, e3]
      clear hq hq2 e2 e3
      go_enter Try.func14, Try.ntmps14
      go_wp2_with fail
      refine HM.out.mono ?_
      rintro e w1 ⟨rfl, rfl⟩
      go_wp2_with fail
      refine HX.out.mono ?_
      rintro e w1 ⟨rfl, rfl⟩
      go_wp2
      go_ret2
      exact ⟨rfl, F, D0.out, Next.refl w1 F⟩
    | false =>
      have hb := of_decide_eq_false hq2
      have e2 : makeE M k n d = ((M.length : Int), 0) := by unfold makeE; rw [hq, if_pos rfl, if_neg (by omega)]
      have e3 : makeM M k n d = addM M (makeR k n d) := by unfold makeM; rw [hq, decide_eq_true (by omega)]; rfl
      rw [e2, e3]
      have HA := Lib.hid (addP1 ⟨makeR k n d, none, 0⟩ w D0.out hm (att_none w _ rfl) (Nat.zero_le _))
      clear hq hq2 e2 e3
      go_enter Try.func14, Try.ntmps14
      go_wp2_with fail
      refine HM.out.mono ?_
      rintro e w1 ⟨rfl, rfl⟩
      go_wp2_with fail
      refine HX.out.mono ?_
      rintro e w1 ⟨rfl, rfl⟩
      go_wp2_with fail
      refine HA.out.mono ?_
      rintro e w2 ⟨rfl, F2, D2, N2⟩
      have HD2 := Lib.hid D2; have HN2 := Lib.hid N2
      clear D2 N2
      go_wp2
      go_ret2
      exact ⟨rfl, F2, HD2.out, HN2.out⟩
end Go.Proofs.Ytmlchbohijolaaa.Ar

namespace Go.Proofs.Ytmlchbohijolaaa.Ar
set_option maxRecDepth 100000
set_option linter.unusedSimpArgs false
set_option linter.unusedVariables false
open Go.RowKit Ba
open Ro (At Ro Cw ros Rr Ow Nw Fr Att Ap Sh Ra Rv Held cells acells app_num below_new infoI info_row len_cells rowV rowO Few right check check1)
theorem nx_block {w w' : World} {F F' : Nat → Prop} (h : Next w w' F F') {b : Nat} (hb : b < w.heap.size) (hf : ¬ F b) : w'.heap[b]? = w.heap[b]? ∧ ¬ F' b := by
  refine ⟨h.1.block b hb hf, fun hf' => ?_⟩
  rcases h.2.2 b hf' with h | h
  · exact hf h
  · omega
theorem Doc12.bd {w : World} {N : Nat} {F : Nat → Prop} {p : Nat} {M : List Nd} (h : Doc12 w N F p M) : ∀ b, F b → b < w.heap.size := by
  obtain ⟨gE, cE, lE, D⟩ := h
  exact D.bd
theorem Doc12.grown {w w' : World} {N : Nat} {F : Nat → Prop} {p : Nat} {M : List Nd} {row : Option Nat} (h : Doc12 w N F p M) (hg : w.grownBy w' row) (hn : ∀ b, row = some b → ¬ F b) : Doc12 w' N F p M :=
  h.touch (G := fun b => row = some b) (Touch.grown hg fun b hb => hb) fun b hf hb => hn b hb hf
/-- What a slice of numbers of one's own is, cut at its end. -/
theorem nw_cut {K : Nat} {w : World} {A : Option Addr} {c : Nat} {os : List Nat} (h : Nw K w (.slice A os.length c) os) {D : Nat} (hD : D ≤ os.length) : Nw K w (.slice A D c) (os.take D) := by
  have hl : (os.take D).length = D := by rw [List.length_take]; omega
  unfold Nw
  rw [hl, List.map_take]
  refine ⟨by rw [List.length_take, List.length_map]; omega, ?_⟩
  rcases h.2 with ⟨hv, h0⟩ | ⟨g, cap, cur, hv, hg, hh, hn, hm, hs, ht⟩
  · obtain rfl : D = 0 := by omega
    injection hv with h1 h2 h3
    exact .inl ⟨by rw [h1, h3], rfl⟩
  · injection hv with h1 h2 h3
    refine .inr ⟨g, cap, cur, by rw [h1, h3], hg, hh, by omega, hm, hs, ?_⟩
    rw [← ht, List.take_take, Nat.mul_one, Nat.mul_one, Nat.min_eq_left hD]
theorem nw_form {K : Nat} {w : World} {v : Value} {os : List Nat} (h : Nw K w v os) : ∃ A c, v = .slice A os.length c ∧ os.length ≤ c ∧ c ≤ maxLen := by
  rcases h.2 with ⟨hv, h0⟩ | ⟨g, cap, cur, hv, hg, hh, hn, hm, hs, ht⟩
  · exact ⟨none, 0, by rw [h0]; exact hv, by omega, Nat.zero_le _⟩
  · exact ⟨_, cap, hv, hn, hm⟩
theorem nw_nil (K : Nat) (w : World) : Nw K w (.slice none 0 0) [] := World.ownsRow_nil w K _ 1
theorem rf_steps' {l : List Ro} (h : right l = true) (j : Nat) (x : Ro) (hx : l[j]? = some x) : (0 : Int) ≤ x.depth ∧ (j = 0 → x.depth ≤ 0) ∧ ∀ y : Ro, 0 < j → l[j - 1]? = some y → x.depth ≤ y.depth + 1 := rf_steps l 0 h j x hx
theorem rf_deep {l : List Ro} (h : right l = true) : ∀ {j : Nat}, j < l.length → ∀ z, l[j]? = some z → z.depth ≤ j
  | 0, hj, z, hz => (rf_steps' h 0 z hz).2.1 rfl
  | j + 1, hj, z, hz => by
    obtain ⟨y, hy⟩ : ∃ y, l[j]? = some y := ⟨_, List.getElem?_eq_getElem (by omega)⟩
    have h1 := (rf_steps' h (j + 1) z hz).2.2 y (by omega) (by simpa using hy)
    have h2 := rf_deep h (j := j) (by omega) y hy
    omega
theorem nw_next {K : Nat} {F F' : Nat → Prop} {w w' : World} {u : Value} {ks : List Nat} (h : Nw K w u ks) (n : Next w w' F F') (hf : ∀ b, u.ownBlock = some b → ¬ F b) : Nw K w' u ks ∧ ∀ b, u.ownBlock = some b → ¬ F' b :=
  ⟨nw_touch h n.1 hf, fun b hb => (nx_block n (owns_lt h hb).2.1 (hf b hb)).2⟩
theorem nw_row {K : Nat} {w w' : World} {u : Value} {ks : List Nat} {row : Option Nat} (h : Nw K w u ks) (hg : w.grownBy w' row) (hn : ∀ b, u.ownBlock = some b → row ≠ some b) : Nw K w' u ks := owns_block h fun g hg' => hg.block g (owns_lt h hg').2.1 fun e => hn g hg' e.symm
theorem slice_own (A : Option Addr) (n m c d : Nat) : (Value.slice A n c).ownBlock = (Value.slice A m d).ownBlock := by cases A <;> rfl
set_option maxRecDepth 100000 in
set_option maxHeartbeats 8000000 in
theorem growP1 {p N : Nat} {F : Nat → Prop} {M : List Nd} (v : Value) (x : List Cw) (w : World) (D : Doc12 w N F p M) (W : Wf M) (hm : M.length + x.length ≤ 5000) (hv : ∀ w', Touch F w w' → Rv w' v x) (hfw : Few (ros x)) (hR : right (ros x) = true) :
    Calls Try.prog 62 #[.pointer (some ⟨p, 0, none⟩), v] w fun e w' => ∃ u, e = .returned u ∧ Nw w.heap.size w' u (rootsTo M.length (parI (ros x)) x.length) ∧ ∃ F', Doc12 w' N F' p (loadTo M.length (ros x) (parI (ros x)) M x.length) ∧ Next w w' F F' ∧ ∀ b, u.ownBlock = some b → ¬ F' b := by
  have hv0 := hv w (Touch.refl F w)
  obtain ⟨A, c, rfl, hc, hcm, hrr, hheld⟩ := hv0
  have HV := Lib.hid hv; have HHE := Lib.hid hheld; have HD := Lib.hid D; have HFW := Lib.hid hfw; have HR := Lib.hid hR; have HW := Lib.hid W
  clear hv hheld D hrr hfw hR W
  go_enter Try.func62, Try.ntmps62
  go_wp2
  go_loopw [5, 6, 12] (fun ur vr ui wr => ∃ (j : Nat) (u u2 : Value) (os : List Nat) (Fj : Nat → Prop), u = ur ∧ u2 = vr ∧ ui = .int .i64 j ∧ j ≤ x.length ∧ Nw w.heap.size wr u (rootsTo M.length (parI (ros x)) j) ∧ Nw w.heap.size wr u2 os ∧ Stk (ros x) M.length j os ∧ Doc12 wr N Fj p (loadTo M.length (ros x) (parI (ros x)) M j) ∧ Next w wr F Fj ∧ (∀ b, u.ownBlock = some b → ¬ Fj b) ∧ (∀ b, u2.ownBlock = some b → ¬ Fj b) ∧ (∀ b, u.ownBlock = some b → u2.ownBlock ≠ some b)) (fun _ _ i _ => x.length - (intOf i).toNat)
  case atStart =>
    exact ⟨0, _, _, [], F, rfl, rfl, rfl, Nat.zero_le _, nw_nil _ _, nw_nil _ _, stk_nil _ _, HD.out, Next.refl w F, fun b hb => (by cases hb), fun b hb => (by cases hb), fun b hb => (by cases hb)⟩
  case round =>
    obtain ⟨j, u, u2, os, Fj, rfl, rfl, rfl, hj, hnw, hnw2, hstk, hdoc, hnext, hfree, hfree2, hap⟩ := hrel
    have HNW := Lib.hid hnw; have HNW2 := Lib.hid hnw2; have HDJ := Lib.hid hdoc; have HNX := Lib.hid hnext; have HFR := Lib.hid hfree; have HFR2 := Lib.hid hfree2; have HAP := Lib.hid hap; have HSTK := Lib.hid hstk
    clear hnw hnw2 hdoc hnext hfree hfree2 hap hstk
    by_cases hjl : j < x.length
    · obtain ⟨y, hy⟩ : ∃ y, x[j] = y := ⟨_, rfl⟩
      have hyx : y ∈ x := hy ▸ List.getElem_mem hjl
      obtain ⟨A', c', he, _, _, hrr, _⟩ := HV.out wr HNX.out.1
      injection he with he1 he2 he3
      subst he1 he3
      obtain ⟨b, off, hA, hbl, hcell⟩ := hrr.1 (by omega)
      have hya : Att wr wr.heap.size y := hrr.2 y hyx
      have d0 := hcell j hjl 0 _ rfl
      have d1 := hcell j hjl 1 _ rfl
      have d2 := hcell j hjl 2 _ rfl
      have d3 := hcell j hjl 3 _ rfl
      have d4 := hcell j hjl 4 _ rfl
      rw [hy] at d0 d1 d2 d3 d4
      rw [Nat.add_zero] at d0
      subst hA
      have hml : (loadTo M.length (ros x) (parI (ros x)) M j).length = M.length + j := load_len _ _ _ _ j
      have hwf := load_wf (l := ros x) HW.out j fun i hi => (par_lt (ros x) (by rw [Ro.len_ros]; omega)).1
      have hyr : y.ro ∈ ros x := List.mem_map.2 ⟨y, hyx, rfl⟩
      have hjy : (ros x)[j]? = some y.ro := by
        unfold ros
        rw [List.getElem?_map, List.getElem?_eq_getElem hjl, hy]
        rfl
      have hgx : ((ros x)[j]?).getD ⟨0, 0, ⟨#[]⟩, ⟨#[]⟩, []⟩ = y.ro := by rw [hjy]; rfl
      have hb1 := below_new wr (rowO y)
      have hbx : (wr.alloc (rowO y)).heap[wr.heap.size]? = some (rowO y) := heap_alloc_new wr _
      have hadd := addP1 y (wr.alloc (rowO y)) (HDJ.out.below hb1) (by omega) (hya.boxed (Below.refl _ _) (rowO y)) (Nat.le_trans (HFW.out _ hyr) (by decide))
      rw [hml] at hadd
      obtain ⟨n, hn⟩ : ∃ n, M.length + j = n := ⟨_, rfl⟩
      rw [hn] at hadd
      obtain ⟨hle0, hle⟩ := stk_le HR.out HSTK.out hjy
      have HNN := Lib.hid hn; have HB1 := Lib.hid hb1; have HBX := Lib.hid hbx
      have HADD := Lib.hid hadd; have HGX := Lib.hid hgx; have HML := Lib.hid hml; have HWF := Lib.hid hwf; have HJY := Lib.hid hjy
      have hji : (j : Int) < x.length := by omega
      clear hn hadd hgx hml hwf hya hrr hcell he2 hyr hyx hy hb1 hbx hjy
      go_upto_region 5 with (fail)
      go_wp2_with fail
      refine HADD.out.mono ?_
      rintro e w2 ⟨rfl, F2, D2, N2⟩
      have N1 := HNX.out.trans ((Next.of_below HB1.out).trans N2)
      have hH : ¬ Fj wr.heap.size := fun h => by have := HDJ.out.bd _ h; omega
      obtain ⟨hbx2, hHF2⟩ := nx_block N2 (b := wr.heap.size) (by simp) hH
      have hbx2 := hbx2.trans HBX.out
      obtain ⟨hnwa, hfra⟩ := nw_next (HNW.out.below HB1.out) N2 HFR.out
      obtain ⟨hnwb, hfrb⟩ := nw_next (HNW2.out.below HB1.out) N2 HFR2.out
      have hbu : ∀ b, u.ownBlock = some b → b < wr.heap.size := fun b hb => (owns_lt HNW.out hb).2.1
      have hbu2 : ∀ b, u2.ownBlock = some b → b < wr.heap.size := fun b hb => (owns_lt HNW2.out hb).2.1
      obtain ⟨A6, c6, hv6, hoc, hcm6⟩ := nw_form hnwb
      subst hv6
      obtain ⟨A3, c3, hv3, _, _⟩ := nw_form hnwa
      subst hv3
      have hrl := roots_len M.length (parI (ros x)) j
      have hszw := N1.1.size
      have hos : os.length ≤ 5000 := by
        by_cases h0 : j = 0
        · rw [HSTK.out.1 h0]
          decide
        · have h1 := rf_deep HR.out (j := j - 1) (by rw [Ro.len_ros]; omega)
          obtain ⟨z, hz⟩ : ∃ z, (ros x)[j - 1]? = some z := ⟨_, List.getElem?_eq_getElem (by rw [Ro.len_ros]; omega)⟩
          have h2 := HSTK.out.2.1 z (by omega) hz
          have h3 := h1 z hz
          omega
      obtain ⟨D0, hD0⟩ : ∃ D0 : Nat, y.ro.depth = D0 := ⟨y.ro.depth.toNat, by omega⟩
      have hD0l : D0 ≤ os.length := by omega
      have HSTK2 := Lib.hid (stk_next HR.out HSTK.out HJY.out hD0)
      have HQ := Lib.hid (show ∀ w' : World, w'.heap[wr.heap.size]? = some (rowO y) → w'.cell? ⟨wr.heap.size, 0, none⟩ = some (.int .i64 (D0 : Nat)) from fun w' h => by
        rw [← hD0]
        exact cell_of_row w' wr.heap.size 0 _ _ _ h)
      have q0 : w2.cell? ⟨wr.heap.size, 0, none⟩ = some (.int .i64 (D0 : Nat)) := by
        rw [← hD0]
        exact cell_of_row w2 wr.heap.size 0 _ _ _ hbx2
      have HD2 := Lib.hid D2; have HN1 := Lib.hid N1; have HBX2 := Lib.hid hbx2; have HHF := Lib.hid hHF2; have HNA := Lib.hid hnwa; have HNB := Lib.hid hnwb; have HFA := Lib.hid hfra; have HFB := Lib.hid hfrb; have HBU := Lib.hid hbu; have HBU2 := Lib.hid hbu2
      have hszr : wr.heap.size < w2.heap.size := by
        have := N2.1.size
        simp at this
        omega
      clear D2 N2 N1 hH hbx2 hHF2 hnwa hnwb hfra hfrb hbu hbu2 HADD d0 d1 d2 d3 d4 hle hle0
      by_cases hz0 : D0 = 0
      · subst hz0
        have hneg := stk_root HR.out HJY.out hD0
        have HROOT := Lib.hid (show rootsTo M.length (parI (ros x)) (j + 1) = rootsTo M.length (parI (ros x)) j ++ [n] by rw [rootsTo, if_pos hneg, HNN.out])
        have HLOAD := Lib.hid (show loadTo M.length (ros x) (parI (ros x)) M (j + 1) = addM (loadTo M.length (ros x) (parI (ros x)) M j) y.ro by rw [loadTo, if_pos hneg, HGX.out])
        have hrl2 : (rootsTo M.length (parI (ros x)) j).length ≤ 2000000 := by omega
        clear hneg hrl
        have hl0 : (os.take 0).length ≤ 2000000 := by simp
        have HAPN := Lib.hid (show ∀ b, (Value.slice A6 os.length c6).ownBlock = some b → (Value.slice A3 (rootsTo M.length (parI (ros x)) j).length c3).ownBlock ≠ some b from fun b hb hb2 => HAP.out b hb2 hb)
        go_wp2_with (first
          | (at_builtin; refine app_numG w2 rfl (.tmp 22) (.tmp 24) rfl w.heap.size _ (rootsTo M.length (parI (ros x)) j) n rfl HNA.out _ rfl rfl hrl2 hszw ?_; intro v4 w4 ho4 hg4 hf4; have hb4 := (hg4.block _ hszr (fun e => Nat.lt_irrefl _ (HBU.out _ e.symm))).trans HBX2.out; have q4 := HQ.out w4 hb4; have HO4 := Lib.hid ho4; have HG4 := Lib.hid hg4; have HF4 := Lib.hid hf4; have HB4 := Lib.hid (nw_row HNB.out hg4 HAPN.out); have hsz4 := Nat.le_trans hszw hg4.size; clear ho4 hg4 hf4 hb4)
          | (at_builtin; go_loud (refine app_numG w4 rfl (.tmp 38) (.tmp 40) rfl w.heap.size (.slice A6 0 c6) (os.take 0) n rfl (nw_cut HB4.out (Nat.zero_le _)) _ rfl rfl hl0 hsz4 ?_; intro v7 w7 ho7 hg7 hf7; have HO7 := Lib.hid ho7; have HG7 := Lib.hid hg7; have HF7 := Lib.hid hf7; clear ho7 hg7 hf7)))
        go_roundw
        case rel =>
          have hfb7 : ∀ b, (Value.slice A6 0 c6).ownBlock = some b → ¬ F2 b := fun b hb => HFB.out b (by rw [slice_own A6 os.length 0 c6 c6]; exact hb)
          have hap4 : ∀ b, v4.ownBlock = some b → (Value.slice A6 0 c6).ownBlock ≠ some b := fun b hb hb2 => by
            have hb2 : (Value.slice A6 os.length c6).ownBlock = some b := by rw [slice_own A6 os.length 0 c6 c6]; exact hb2
            rcases HF4.out b hb with h | h
            · exact HAPN.out b hb2 h
            · have := (owns_lt HNB.out hb2).2.1
              omega
          refine ⟨j + 1, v4, v7, os.take 0 ++ [n], F2, rfl, rfl, by go_num, by omega, ?_, HO7.out, by rw [← HNN.out]; exact HSTK2.out, ?_, next_grown (next_grown HN1.out HG4.out fun b hb => (owns_lt HNA.out hb).1) HG7.out fun b hb => ?_, fun b hb hf => ?_, fun b hb hf => ?_, fun b hb hb2 => ?_⟩
          · rw [HROOT.out]
            exact nw_row HO4.out HG7.out fun b hb e => hap4 b hb e
          · rw [HLOAD.out]
            exact (HD2.out.grown HG4.out HFA.out).grown HG7.out hfb7
          · exact (owns_lt (nw_cut HB4.out (Nat.zero_le _)) hb).1
          · rcases HF4.out b hb with h | h
            · exact HFA.out b h hf
            · have := HD2.out.bd b hf
              omega
          · rcases HF7.out b hb with h | h
            · exact hfb7 b h hf
            · have h1 := HD2.out.bd b hf
              have h2 := HG4.out.size
              omega
          · rcases HF7.out b hb2 with h | h
            · exact hap4 b hb h
            · have := (owns_lt HO4.out hb).2.1
              omega
        case measure => (simp [intOf]; try omega)
      · obtain ⟨D1, rfl⟩ : ∃ D1, D0 = D1 + 1 := ⟨D0 - 1, by omega⟩
        obtain ⟨k, hpk, hkj, hd, hosk⟩ := stk_kid HR.out HSTK.out HJY.out (D := D1) hD0
        obtain ⟨P, hP⟩ : ∃ P, M.length + k = P := ⟨_, rfl⟩
        rw [hP] at hosk
        obtain ⟨A6', c6', he6, hat⟩ := nw_at HNB.out
        injection he6 with he61 _ he63
        subst he61 he63
        obtain ⟨b6, hA6, _, _, hcell6⟩ := hat (by omega)
        have c0 := hcell6 D1 hd
        rw [hosk] at c0
        subst hA6
        have HW1 := Lib.hid (HWF.out.add y.ro)
        have hL1 : (addM (loadTo M.length (ros x) (parI (ros x)) M j) y.ro).length = n + 1 := by rw [len_add, HML.out, HNN.out]
        have hnn := HNN.out
        have hup : (nd (addM (loadTo M.length (ros x) (parI (ros x)) M j) y.ro) n).up = -1 := by rw [nd_add, if_pos (by rw [HML.out, HNN.out])]
        have hadopt := adoptP1 P n w2 HD2.out HW1.out (by rw [hL1]; omega) (by rw [hL1]; omega) (by rw [hL1]; omega) (by omega) hup
        have HAD := Lib.hid hadopt
        have hnneg : ¬ parI (ros x) j < 0 := by rw [hpk]; omega
        have HROOT := Lib.hid (show rootsTo M.length (parI (ros x)) (j + 1) = rootsTo M.length (parI (ros x)) j by rw [rootsTo, if_neg hnneg])
        have HLOAD := Lib.hid (show loadTo M.length (ros x) (parI (ros x)) M (j + 1) = setM (addM (loadTo M.length (ros x) (parI (ros x)) M j) y.ro) P (nd (addM (loadTo M.length (ros x) (parI (ros x)) M j) y.ro) P).kids.length n by rw [loadTo, if_neg hnneg, HGX.out, hpk, Int.toNat_natCast, hP, HNN.out])
        have q0' : w2.cell? ⟨wr.heap.size, 0, none⟩ = some (.int .i64 ((D1 : Int) + 1)) := q0
        have HQ' := Lib.hid (show ∀ w' : World, w'.heap[wr.heap.size]? = some (rowO y) → w'.cell? ⟨wr.heap.size, 0, none⟩ = some (.int .i64 ((D1 : Int) + 1)) from HQ.out)
        have hD1n : ¬ (D1 : Int) + 1 = 0 := by omega
        have hD1b : ((D1 : Int) + 1 == 0) = false := by simpa using hD1n
        have hD1i : (D1 : Int) < os.length := by omega
        have hD1c : (D1 : Int) + 1 ≤ c6 := by omega
        have hD1w : IntKind.i64.wrap ((D1 : Int) + 1 - 1) = (D1 : Int) := by
          rw [IntWalk.i64_in _ (by omega)]
          omega
        clear q0 hcell6 hat hadopt hnneg hup hpk hkj hosk hrl hL1 hnn
        go_wp2_with fail
        refine HAD.out.mono ?_
        rintro e w3 ⟨rfl, F3, D3, N3⟩
        obtain ⟨hb3, hH3⟩ := nx_block N3 hszr HHF.out
        have q3 := HQ'.out w3 (hb3.trans HBX2.out)
        obtain ⟨hna3, hfa3⟩ := nw_next HNA.out N3 HFA.out
        obtain ⟨hnb3, hfb3⟩ := nw_next HNB.out N3 HFB.out
        have N13 := HN1.out.trans N3
        have hsz3 := N13.1.size
        have HNA3 := Lib.hid hna3; have HFA3 := Lib.hid hfa3; have HNB3 := Lib.hid hnb3; have HFB3 := Lib.hid hfb3; have HD3 := Lib.hid D3; have HN13 := Lib.hid N13; have HSZ3 := Lib.hid N3.1.size
        have HCUT := Lib.hid (nw_cut hnb3 hD0l)
        have hl0 : (os.take (D1 + 1)).length ≤ 2000000 := by rw [List.length_take]; omega
        clear hb3 hH3 hna3 hnb3 hfa3 hfb3 N3 D3 N13 HAD c0 q0'
        go_wp2_with (at_builtin; go_loud (refine app_numG w3 rfl (.tmp 38) (.tmp 40) rfl w.heap.size (.slice (some ⟨b6, 0, none⟩) (D1 + 1) c6) (os.take (D1 + 1)) n rfl HCUT.out _ rfl rfl hl0 hsz3 ?_; intro v7 w7 ho7 hg7 hf7; have HO7 := Lib.hid ho7; have HG7 := Lib.hid hg7; have HF7 := Lib.hid hf7; clear ho7 hg7 hf7))
        go_roundw
        case rel =>
          refine ⟨j + 1, .slice A3 (rootsTo M.length (parI (ros x)) j).length c3, v7, os.take (D1 + 1) ++ [n], F3, rfl, rfl, by go_num, by omega, ?_, HO7.out, by rw [← HNN.out]; exact HSTK2.out, ?_, next_grown HN13.out HG7.out fun b hb => (owns_lt HNB3.out hb).1, HFA3.out, fun b hb hf => ?_, fun b hb hb2 => ?_⟩
          · rw [HROOT.out]
            exact nw_row HNA3.out HG7.out fun b hb e => HAP.out b hb e
          · rw [HLOAD.out]
            exact HD3.out.grown HG7.out HFB3.out
          · rcases HF7.out b hb with h | h
            · exact HFB3.out b h hf
            · have h1 := HD3.out.bd b hf
              omega
          · rcases HF7.out b hb2 with h | h
            · exact HAP.out b hb h
            · have := (owns_lt HNA3.out hb).2.1
              omega
        case measure => (simp [intOf]; try omega)
    · obtain rfl : j = x.length := by omega
      go_wp2
      go_ret
      exact ⟨u, rfl, HNW.out, Fj, HDJ.out, HNX.out, HFR.out⟩
end Go.Proofs.Ytmlchbohijolaaa.Ar

namespace Go.Proofs.Ytmlchbohijolaaa.Ar
set_option maxRecDepth 100000
set_option linter.unusedSimpArgs false
set_option linter.unusedVariables false
open Go.RowKit Ba
open Ro (At Ro Cw ros Rr Ow Nw Fr Att Ap Sh Ra Rv Held cells acells app_num below_new infoI info_row len_cells rowV rowO Few right check check1)
set_option maxRecDepth 100000 in
set_option maxHeartbeats 4000000 in
theorem loadP1 {p N : Nat} {F : Nat → Prop} {M : List Nd} (v : Value) (x : List Cw) (w : World) (D : Doc12 w N F p M) (W : Wf M) (hm : M.length ≤ 4500) (hv : ∀ w', Touch F w w' → Rv w' v x) (hxl : x.length ≤ 400) (hfw : Few (ros x)) :
    Calls Try.prog 25 #[.pointer (some ⟨p, 0, none⟩), v] w fun e w' => ∃ u, e = .returned (.tuple #[u, .int .i64 (loadE M (ros x))]) ∧ Nw w.heap.size w' u (if loadE M (ros x) = 0 then rootsTo M.length (parI (ros x)) x.length else []) ∧ ∃ F', Doc12 w' N F' p (if loadE M (ros x) = 0 then loadTo M.length (ros x) (parI (ros x)) M x.length else M) ∧ Next w w' F F' ∧ ∀ b, u.ownBlock = some b → ¬ F' b := by
  have hv0 := hv w (Touch.refl F w)
  obtain ⟨q, hq⟩ : ∃ q, check (ros x) = q := ⟨_, rfl⟩
  have HCK := Lib.hid (check1 v x w q hv0 (by omega) hq)
  obtain ⟨A, c, rfl, hc, hcm, hrr, hheld⟩ := hv0
  have HD := Lib.hid D
  have hlr : (ros x).length = x.length := Ro.len_ros x
  by_cases hq0 : q = 0
  · subst hq0
    obtain ⟨q2, hq2⟩ : ∃ q2, decide (4096 < M.length + x.length) = q2 := ⟨_, rfl⟩
    have HEX := Lib.hid (show ∀ w', Below w.heap.size w w' → Calls Try.prog 40 #[.pointer (some ⟨p, 0, none⟩), .int .i64 x.length] w' fun e w'' => e = .returned (.bool q2) ∧ w'' = w' from fun w' hb => by
      obtain ⟨gE, cE, lE, D1⟩ := D.below hb
      exact exceeds1 x.length w' D1 (by omega) (by omega) q2 hq2)
    cases q2 with
    | true =>
      have hbig := of_decide_eq_true hq2
      have e1 : loadE M (ros x) = 2 := by unfold loadE; rw [hq, if_pos rfl, hlr, if_pos hbig]
      rw [e1, if_neg (by decide), if_neg (by decide)]
      clear hq hrr hheld hv hlr e1 D hbig hq2
      go_enter Try.func25, Try.ntmps25
      go_wp2_with fail
      refine HCK.out.mono ?_
      rintro e w1 ⟨rfl, hb⟩
      have HB := Lib.hid hb
      clear hb
      go_wp2_with fail
      refine (HEX.out w1 HB.out).mono ?_
      rintro e w2 ⟨rfl, rfl⟩
      go_wp2
      go_ret2
      exact ⟨_, rfl, nw_nil _ _, F, HD.out.below HB.out, Next.of_below HB.out, fun b hb => (by cases hb)⟩
    | false =>
      have hbig := of_decide_eq_false hq2
      have e1 : loadE M (ros x) = 0 := by unfold loadE; rw [hq, if_pos rfl, hlr, if_neg hbig]
      rw [e1, if_pos rfl, if_pos rfl]
      have hG := fun (w1 : World) (hb : Below w.heap.size w w1) => growP1 (p := p) (N := N) (F := F) (M := M) (.slice A x.length c) x w1 (D.below hb) W (by omega) (fun w' t => hv w' ((Touch.of_below (F := F) hb).trans t fun _ _ h => h)) hfw (check_right hq)
      have HG := Lib.hid hG
      clear hq hrr hheld hv hlr e1 D hbig hq2 hG
      go_enter Try.func25, Try.ntmps25
      go_wp2_with fail
      refine HCK.out.mono ?_
      rintro e w1 ⟨rfl, hb⟩
      have HB := Lib.hid hb
      clear hb
      go_wp2_with fail
      refine (HEX.out w1 HB.out).mono ?_
      rintro e w2 ⟨rfl, rfl⟩
      go_wp2_with fail
      refine (HG.out _ HB.out).mono ?_
      rintro e w3 ⟨u, rfl, hnw, F3, D3, N3, hf3⟩
      have HNW := Lib.hid hnw; have HD3 := Lib.hid D3; have HN3 := Lib.hid ((Next.of_below HB.out).trans N3); have HF3 := Lib.hid hf3
      clear hnw D3 N3 hf3
      go_wp2
      go_ret2
      exact ⟨_, rfl, World.ownsRow.mono HNW.out HB.out.size, F3, HD3.out, HN3.out, HF3.out⟩
  · have e1 : loadE M (ros x) = q := by unfold loadE; rw [hq, if_neg hq0]
    rw [e1, if_neg hq0, if_neg hq0]
    have hqb : (q == 0) = false := by simpa using hq0
    clear hq hrr hheld hv hlr e1 D
    go_enter Try.func25, Try.ntmps25
    go_wp2_with fail
    refine HCK.out.mono ?_
    rintro e w1 ⟨rfl, hb⟩
    have HB := Lib.hid hb
    clear hb
    go_wp2
    go_ret2
    exact ⟨_, rfl, nw_nil _ _, F, HD.out.below HB.out, Next.of_below HB.out, fun b hb => (by cases hb)⟩
end Go.Proofs.Ytmlchbohijolaaa.Ar

namespace Go.Proofs.Ytmlchbohijolaaa.Ar
set_option maxRecDepth 100000
set_option linter.unusedSimpArgs false
set_option linter.unusedVariables false
open Go.RowKit Ba
open Ro (At Ro Cw ros Rr Ow Nw app_num below_new)
set_option maxRecDepth 100000 in
set_option maxHeartbeats 2000000 in
theorem withinP1 {p N gE cE : Nat} {F : Nat → Prop} {M : List Nd} {lE : List Ew} (n o : Int) (w : World) (D : PD w N F p M gE cE lE) (W : Wf M) (hm : M.length ≤ 5000) (q : Bool) (hq : q = true ↔ Win M n o) :
    Calls Try.prog 19 #[.pointer (some ⟨p, 0, none⟩), .int .i64 n, .int .i64 o] w fun e w' => e = .returned (.bool q) ∧ w' = w := by
  have hx := D.x
  have hcap := D.obj.2.2.1
  have HH1 := Lib.hid (has1 n w D _ rfl)
  have HH2 := Lib.hid (has1 o w D _ rfl)
  have HU := Lib.hid (fun k => D.upAt (k := k))
  have HQ := Lib.hid hq
  clear D hq
  by_cases hn : 0 ≤ n ∧ n < M.length ∧ 0 ≤ o ∧ o < M.length
  · obtain ⟨n0, n1, o0, o1⟩ := hn
    have e1 : hasB M n = true := hasB_iff.2 ⟨n0, n1⟩
    have e2 : hasB M o = true := hasB_iff.2 ⟨o0, o1⟩
    rw [e1] at HH1
    rw [e2] at HH2
    obtain ⟨h, H⟩ := W.acyc
    have HH := Lib.hid H
    clear H e1 e2
    go_enter Try.func19, Try.ntmps19
    go_wp2_with fail
    refine HH1.out.mono ?_
    rintro e w1 ⟨rfl, rfl⟩
    go_wp2_with fail
    refine HH2.out.mono ?_
    rintro e w1 ⟨rfl, rfl⟩
    go_wp2
    go_loop [1] (fun v => ∃ d : Int, v = .int .i64 d ∧ -1 ≤ d ∧ d < M.length ∧ Hid (Win M d o ↔ Win M n o)) (fun v => stepM h (intOf v))
    case atStart => exact ⟨n, rfl, by omega, n1, Lib.hid Iff.rfl⟩
    case round =>
      obtain ⟨d, rfl, hd1, hd2, hd⟩ := hrel
      by_cases h0 : 0 ≤ d
      · obtain ⟨k, rfl⟩ : ∃ k : Nat, d = k := ⟨d.toNat, by omega⟩
        have hk : k < M.length := by omega
        have hcu := HU.out k hk
        by_cases he : (k : Int) = o
        · have hqt : q = true := HQ.out.2 (hd.out.1 (by rw [← he]; exact win_nat.2 (.refl hk)))
          have HQT := Lib.hid hqt
          clear hqt
          go_wp2
          go_ret
          exact ⟨ret_bool (by rw [HQT.out]), rfl⟩
        · obtain ⟨y, hy⟩ : ∃ y, (nd M k).up = y := ⟨_, rfl⟩
          have hlow : -1 ≤ y := by rw [← hy]; exact W.low k
          have hyl : y < M.length := by
            by_cases hy0 : 0 ≤ y
            · have := W.up_lt (c := k) (p := y.toNat) hk (by rw [hy]; omega)
              omega
            · omega
          have hstep : Win M y o ↔ Win M n o := by
            rw [← hd.out]
            unfold Win
            constructor
            · rintro ⟨a1, a2, a3⟩
              refine ⟨by omega, a2, .step hk ?_ a3⟩
              show (nd M k).up = _
              rw [hy]
              omega
            · rintro ⟨a1, a2, a3⟩
              rcases up_iff.1 a3 with ⟨_, e | ⟨p', e, a4⟩⟩
              · exfalso
                apply he
                have : k = o.toNat := e
                omega
              · have e : (nd M k).up = (p' : Int) := e
                rw [hy] at e
                subst e
                exact ⟨by omega, a2, by simpa using a4⟩
          have hmeas : stepM h y < stepM h k := by
            unfold stepM
            rw [if_neg (by omega : ¬ (k : Int) < 0)]
            by_cases hy0 : y < 0
            · rw [if_pos hy0]
              omega
            · rw [if_neg hy0]
              have := HH.out k y.toNat hk (by rw [hy]; omega)
              have e : (k : Int).toNat = k := by omega
              rw [e]
              omega
          have HS := Lib.hid hstep; have HM := Lib.hid hmeas
          rw [hy] at hcu
          have hek : ((k : Int) != o) = true := by simpa using he
          have hk1 : ¬ (k : Int) = -1 := by omega
          have hk2 : ((k : Int) != -1) = true := by simp
          clear hd hstep hmeas hy
          go_wp2
          go_round
          case rel => exact ⟨y, rfl, hlow, hyl, HS⟩
          case measure => exact HM.out
      · have hqf : q = false := by
          rw [← Bool.not_eq_true, HQ.out, ← hd.out]
          intro h
          exact h0 h.1
        have HQF := Lib.hid hqf
        obtain rfl : d = -1 := by omega
        have ho1 : ¬ (-1 : Int) = o := by omega
        have ho2 : ((-1 : Int) != o) = true := by simpa using ho1
        have ho3 : ((-1 : Int) == o) = false := by simpa using ho1
        clear hqf
        go_wp2
        go_ret
        exact ⟨ret_bool (by rw [HQF.out]), rfl⟩
  · have hqf : false = q := by
      symm
      rw [← Bool.not_eq_true, HQ.out]
      intro h
      exact hn (win_lt h)
    subst hqf
    clear HQ HU
    by_cases a1 : 0 ≤ n ∧ n < M.length
    · have e1 : hasB M n = true := hasB_iff.2 a1
      have e2 : hasB M o = false := by
        rw [← Bool.not_eq_true, hasB_iff]
        exact fun h => hn ⟨a1.1, a1.2, h⟩
      rw [e1] at HH1
      rw [e2] at HH2
      clear e1 e2
      go_enter Try.func19, Try.ntmps19
      go_wp2_with fail
      refine HH1.out.mono ?_
      rintro e w1 ⟨rfl, rfl⟩
      go_wp2_with fail
      refine HH2.out.mono ?_
      rintro e w1 ⟨rfl, rfl⟩
      go_wp2
      go_ret
      exact ⟨rfl, rfl⟩
    · have e1 : hasB M n = false := by
        rw [← Bool.not_eq_true, hasB_iff]
        exact a1
      rw [e1] at HH1
      clear e1
      go_enter Try.func19, Try.ntmps19
      go_wp2_with fail
      refine HH1.out.mono ?_
      rintro e w1 ⟨rfl, rfl⟩
      go_wp2
      go_ret
      exact ⟨rfl, rfl⟩
end Go.Proofs.Ytmlchbohijolaaa.Ar

namespace Go.Proofs.Ytmlchbohijolaaa.Ar
set_option maxRecDepth 100000
set_option linter.unusedSimpArgs false
set_option linter.unusedVariables false
open Go.RowKit Ba
open Ro (At Ro Cw ros Rr Ow Nw app_num below_new)
theorem erase_filter {n : Nat} : ∀ (l : List Nat) (k : Nat), l.Nodup → l[k]? = some n → l.eraseIdx k = l.filter (· != n)
  | [], k, _, h => by simp at h
  | a :: r, 0, hn, h => by
    have h : a = n := by simpa using h
    subst h
    obtain ⟨h1, _⟩ := List.nodup_cons.1 hn
    rw [List.eraseIdx_cons_zero, List.filter_cons_of_neg (by simp)]
    symm
    rw [List.filter_eq_self]
    intro c hc
    rw [bne_iff_ne]
    intro e
    exact h1 (e ▸ hc)
  | a :: r, k + 1, hn, h => by
    have h : r[k]? = some n := by simpa using h
    obtain ⟨h1, h2⟩ := List.nodup_cons.1 hn
    have hne : a ≠ n := fun e => h1 (e ▸ List.mem_of_getElem? h)
    rw [List.eraseIdx_cons_succ, List.filter_cons_of_pos (by simpa using hne), erase_filter r k h2 h]
theorem take_same {M : List Nd} (W : Wf M) {n : Nat} (hn : n < M.length) (hup : (nd M n).up = -1) : takeOut M n = M := by
  refine ext_nd (len_take M n) fun m _ => ?_
  rw [nd_take, filter_none W hup]
  by_cases e : m = n
  · subst e
    rw [if_pos rfl, ← hup]
  · rw [if_neg e]
theorem up_ne {M : List Nd} (W : Wf M) {n P : Nat} (hn : n < M.length) (hup : (nd M n).up = (P : Int)) : P ≠ n := fun e => by
  obtain ⟨h, H⟩ := W.acyc
  have := H n P hn hup
  rw [e] at this
  omega
set_option maxRecDepth 100000 in
set_option maxHeartbeats 4000000 in
theorem detachP1 {p N : Nat} {F : Nat → Prop} {M : List Nd} (n : Nat) (w : World) (D : Doc12 w N F p M) (W : Wf M) (hm : M.length ≤ 5000) (hn : n < M.length) :
    Calls Try.prog 43 #[.pointer (some ⟨p, 0, none⟩), .int .i64 n] w fun e w' => e = .returned (.tuple #[]) ∧ ∃ F', Doc12 w' N F' p (takeOut M n) ∧ Next w w' F F' := by
  have D0 := Lib.hid D
  obtain ⟨gE, cE, lE, D⟩ := D
  have hx := D.x
  have hcap := D.obj.2.2.1
  have hni : (n : Int) < M.length := by omega
  have hun := D.upAt hn
  by_cases hup : (nd M n).up = -1
  · rw [take_same W hn hup]
    rw [hup] at hun
    clear D
    go_enter Try.func43, Try.ntmps43
    go_wp2
    first | go_end0 | refine bodyPost_ret (results_none rfl _ _ _) rfl ?_
    exact ⟨rfl, F, D0.out, Next.refl w F⟩
  · have hlow := W.low n
    obtain ⟨P, hP⟩ : ∃ P : Nat, (nd M n).up = P := ⟨(nd M n).up.toNat, by omega⟩
    have hPl := W.up_lt hn hP
    have hne := up_ne W hn hP
    rw [hP] at hun
    obtain ⟨e, he, hen, hek, hok, hoa, c6, c5, c4⟩ := D.kidsOf hPl
    have hmem : n ∈ e.kids := by rw [hek]; exact (W.kid P n).2 ⟨hn, hP⟩
    obtain ⟨at_, hat, hatn⟩ := List.getElem_of_mem hmem
    have hkl : e.kids.length ≤ 5000 := by rw [hek]; exact kids_bound W hm P
    have hnd : e.kids.Nodup := by rw [hek]; exact W.nodup P
    have HD := Lib.hid D
    have HOK := Lib.hid (show Of w N 3 1 e.K e.kids.length e.kc (e.kids.map nv) from hok)
    have HE := Lib.hid he; have HEN := Lib.hid hen; have HEK := Lib.hid hek; have HOA := Lib.hid hoa
    have hgl := D.obj.2.1
    have hPi : (P : Int) < M.length := by omega
    have HKC := Lib.hid (show ∃ g, e.K = some ⟨g, 0, none⟩ ∧ ∀ j (h : j < e.kids.length), w.cell? ⟨g, j, none⟩ = some (.int .i64 (e.kids[j] : Nat)) from by
      rcases Of.obj hok with ⟨_, h0, _⟩ | ⟨g, cur, hA, _⟩
      · omega
      · exact ⟨g, hA, fun j hj => (Of.cells hok hA j _ (by rw [List.getElem?_map, List.getElem?_eq_getElem hj]; rfl)).1⟩)
    have hkeep : ∀ w', Touch (fun b => blkOf e.K = some b) w w' → ∀ j, w'.cell? ⟨p, j, none⟩ = w.cell? ⟨p, j, none⟩ ∧ w'.cell? ⟨gE, j, none⟩ = w.cell? ⟨gE, j, none⟩ ∧ w'.frozen? ⟨gE, j, none⟩ = false := fun w' t j => by
      obtain ⟨_, _, _, _, cc, ff, hoE⟩ := D.obj
      have h1 : ¬ blkOf e.K = some p := fun hb => by
        obtain ⟨_, _, _, _, _, hh⟩ := ok_obj hok hb
        exact type_ne hh D.box (by decide) rfl
      have h2 : ¬ blkOf e.K = some gE := fun hb => by
        obtain ⟨_, _, _, _, _, hh⟩ := ok_obj hok hb
        exact type_ne hh hoE (by decide) rfl
      obtain ⟨h3, h4⟩ := touch_cell t hgl h2 j
      exact ⟨(touch_cell t D.p_lt h1 j).1, h3, h4.trans (D.frz j)⟩
    have HK := Lib.hid hkeep; have HN := Lib.hid D.hN
    have HPU := Lib.hid hP
    have HAT := Lib.hid hatn; have HND := Lib.hid hnd
    have hP1 : ¬ (P : Int) = -1 := by omega
    have hPb : ((P : Int) == -1) = false := by simp
    clear D hok hoa he hen hek hkeep c5 c4 hup hlow hmem hatn hnd
    obtain ⟨gK, hgK, hcell⟩ := HKC.out
    rw [hgK] at c6
    have HCL := Lib.hid hcell
    clear hcell HKC
    go_enter Try.func43, Try.ntmps43
    go_wp2
    go_loop [28] (fun v => ∃ j : Nat, v = .int .i64 j ∧ j ≤ at_) (fun v => e.kids.length - (intOf v).toNat)
    case atStart => exact ⟨0, rfl, Nat.zero_le _⟩
    case round =>
      obtain ⟨j, rfl, hj⟩ := hrel
      have hjl : j < e.kids.length := by omega
      have hji : (j : Int) < e.kids.length := by omega
      have hkc := HCL.out j hjl
      obtain ⟨k, hk⟩ : ∃ k, e.kids[j] = k := ⟨_, rfl⟩
      rw [hk] at hkc
      by_cases hkn : k = n
      · have hkn2 := hkn.symm
        subst hkn2
        clear hkn
        have hja : j = at_ := by
          apply Decidable.byContradiction
          intro hne2
          have := List.pairwise_iff_getElem.1 HND.out j at_ hjl hat (by omega)
          exact this (hk.trans HAT.out.symm)
        subst hja
        have hskl : e.kids.length - 1 ≤ 5000 := by omega
        clear hk
        go_wp2
        have hw1 := withoutI1 (l := e.kids) (A := e.K) (c := e.kc) (N := N) j w HOK.out hjl (by omega) HN.out
        have hw2 := withoutI1 (l := e.kids) (A := e.K) (c := e.kc) (N := N) j w.drew HOK.out hjl (by omega) HN.out
        rw [hgK] at hw1 hw2
        have HW1 := Lib.hid hw1; have HW2 := Lib.hid hw2
        clear hw1 hw2
        go_region_law (go_simp; go_at_call 70; (first | refine HW1.out.mono ?_ | refine HW2.out.mono ?_); rintro e5 w5 ⟨A5, k5, rfl, ho5, ht5, hb5⟩; have ht5' : Touch (fun b => blkOf e.K = some b) w w5 := ⟨ht5.os, ht5.tape, ht5.output, ht5.size, fun b hb hn => ht5.block b hb (by rw [← hgK]; exact hn)⟩; have d0 := ((HK.out w5 ht5') 0).1.trans hx; have d6 := ((HK.out w5 ht5') (P * 7 + 6)).2.1.trans c6; have dF := ((HK.out w5 ht5') (P * 7 + 6)).2.2; have HO5 := Lib.hid ho5; have HT5 := Lib.hid ht5'; have HB5 := Lib.hid hb5; clear ho5 ht5 hb5 ht5')
        all_goals go_simp
        all_goals
          have hl1 : (e.kids.eraseIdx j).length = e.kids.length - 1 := List.length_eraseIdx_of_lt hjl
          have hoaw : OA w5 N e.x := HOA.out.block fun g hg => by
            obtain ⟨_, _, h3, _, _, hh⟩ := oa_obj HOA.out hg
            exact HT5.out.block g h3 fun hb => by
              obtain ⟨_, _, _, _, _, hh2⟩ := ok_obj HOK.out hb
              exact type_ne hh hh2 (by decide) rfl
          have hokw : OK w5 N A5 k5 (e.kids.eraseIdx j) := by
            unfold OK
            rw [hl1]
            exact HO5.out
          obtain ⟨P6, N6⟩ := HD.out.put (e' := ⟨e.x, e.up, A5, k5, e.kids.eraseIdx j⟩) HE.out (w' := w5) (HT5.out.mono fun b _ hb => .inr hb) (j := 6) (by decide) (.slice A5 (e.kids.length - 1) k5) (by rw [← hl1]; rfl) hoaw hokw (fun g hg => .inl hg) (fun g hg => by
            rcases HB5.out g hg with h | h
            · left
              unfold bK
              rw [hgK]
              exact h
            · exact .inr h)
          obtain ⟨w6, hw6⟩ : ∃ w6, w5.setCell ⟨gE, P * 7 + 6, none⟩ (.slice A5 (e.kids.length - 1) k5) = w6 := ⟨_, rfl⟩
          rw [hw6] at P6 N6
          rw [hw6]
          have hl6 : (M.set P (nodeOf ⟨e.x, e.up, A5, k5, e.kids.eraseIdx j⟩)).length = M.length := List.length_set
          obtain ⟨e2, he2, hen2, _, hok2, hoa2, _, c5', _⟩ := P6.kidsOf (k := n) (by rw [hl6]; exact hn)
          have x6 := P6.x
          rw [hl6] at x6
          have f6 := P6.frz (n * 7 + 5)
          obtain ⟨P7, N7⟩ := P6.put (e' := ⟨e2.x, -1, e2.K, e2.kc, e2.kids⟩) he2 (w' := w6) (Touch.refl _ _) (j := 5) (by decide) (.int .i64 (-1)) rfl hoa2 hok2 (fun g hg => .inl hg) (fun g hg => .inl hg)
          have HP7 := Lib.hid P7; have HN7 := Lib.hid (N6.trans N7); have HEN2 := Lib.hid hen2
          have hM : takeOut M n = (M.set P (nodeOf ⟨e.x, e.up, A5, k5, e.kids.eraseIdx j⟩)).set n (nodeOf ⟨e2.x, -1, e2.K, e2.kc, e2.kids⟩) := by
            refine ext_nd (by rw [len_take, List.length_set, List.length_set]) fun m hmm => ?_
            have hn2 := HEN2.out
            rw [nd_setL hPl, if_neg (fun e => hne e.symm)] at hn2
            have r2 : ({ e2.x.ro with depth := 0 } : Ro) = (nd M n).ro := by rw [← hn2]; rfl
            have k2 : e2.kids = (nd M n).kids := by rw [← hn2]; rfl
            have r1 : ({ e.x.ro with depth := 0 } : Ro) = (nd M P).ro := by rw [← HEN.out]; rfl
            have u1 : e.up = (nd M P).up := by rw [← HEN.out]; rfl
            have hother : ∀ m, m ≠ P → (nd M m).kids.filter (· != n) = (nd M m).kids := fun m hmP => by
              rw [List.filter_eq_self]
              intro c hc
              rw [bne_iff_ne]
              intro e3
              subst e3
              have := ((W.kid m c).1 hc).2
              have h2 := HPU.out
              omega
            have hkf := erase_filter (n := n) e.kids j HND.out (by rw [List.getElem?_eq_getElem hjl]; exact congrArg some HAT.out)
            rw [nd_take, nd_setL (by rw [List.length_set]; exact hn), nd_setL hPl]
            by_cases e1 : m = n
            · subst e1
              rw [if_pos rfl, if_pos rfl, hother m (fun e => hne e.symm)]
              unfold nodeOf
              simp only
              rw [r2, k2]
            · rw [if_neg e1, if_neg e1]
              by_cases e3 : m = P
              · subst e3
                rw [if_pos rfl]
                unfold nodeOf
                simp only
                rw [r1, u1, hkf, HEK.out]
              · rw [if_neg e3, hother m e3]
          have HM := Lib.hid hM
          clear P6 N6 P7 N7 hw6 hoaw hokw hl6 he2 hok2 hoa2 hen2 hx c6 d0 d6 dF hM hun hkc
          go_wp2
          first | go_end0 | refine bodyPost_ret (results_none rfl _ _ _) rfl ?_
          rw [HM.out]
          exact ⟨rfl, _, ⟨_, _, _, HP7.out⟩, HN7.out⟩
      · have hkb : ((k : Int) == (n : Int)) = false := by
          have : ¬ (k : Int) = n := by omega
          simpa using this
        have hjn : j ≠ at_ := fun e2 => by
          subst e2
          exact hkn (hk.symm.trans HAT.out)
        clear hk
        go_wp2
        go_round
        case rel => exact ⟨j + 1, by go_num, by omega⟩
        case measure => (simp [intOf]; try omega)
theorem removeP1 {p N : Nat} {F : Nat → Prop} {M : List Nd} (n : Int) (w : World) (D : Doc12 w N F p M) (W : Wf M) (hm : M.length ≤ 5000) (q : Int) (hq : (if 1 ≤ n ∧ n < M.length then (0 : Int) else 110) = q) :
    Calls Try.prog 15 #[.pointer (some ⟨p, 0, none⟩), .int .i64 n] w fun e w' => e = .returned (.int .i64 q) ∧ ∃ F', Doc12 w' N F' p (if 1 ≤ n ∧ n < M.length then takeOut M n.toNat else M) ∧ Next w w' F F' := by
  have HD := Lib.hid D
  have hmv : Calls Try.prog 42 #[.pointer (some ⟨p, 0, none⟩), .int .i64 n] w fun e w' => e = .returned (.bool (movB M n)) ∧ w' = w := by
    obtain ⟨gE, cE, lE, D⟩ := D
    exact movable1 n w D _ rfl
  have HMV := Lib.hid hmv
  clear hmv D
  by_cases hn : 1 ≤ n ∧ n < M.length
  · rw [if_pos hn] at hq ⊢
    subst hq
    have e1 : movB M n = true := movB_iff.2 ⟨by omega, hn.2⟩
    rw [e1] at HMV
    obtain ⟨k, rfl⟩ : ∃ k : Nat, n = k := ⟨n.toNat, by omega⟩
    have HDE := Lib.hid (detachP1 k w HD.out W hm (by omega))
    rw [Int.toNat_natCast]
    clear e1
    go_enter Try.func15, Try.ntmps15
    go_wp2_with fail
    refine HMV.out.mono ?_
    rintro e w1 ⟨rfl, rfl⟩
    go_wp2_with fail
    refine HDE.out.mono ?_
    rintro e w2 ⟨rfl, F2, D2, N2⟩
    have HD2 := Lib.hid D2; have HN2 := Lib.hid N2
    clear D2 N2
    go_wp2
    go_ret
    exact ⟨rfl, F2, HD2.out, HN2.out⟩
  · rw [if_neg hn] at hq ⊢
    subst hq
    have e1 : movB M n = false := by rw [← Bool.not_eq_true, movB_iff]; omega
    rw [e1] at HMV
    clear e1
    go_enter Try.func15, Try.ntmps15
    go_wp2_with fail
    refine HMV.out.mono ?_
    rintro e w1 ⟨rfl, rfl⟩
    go_wp2
    go_ret
    exact ⟨rfl, F, HD.out, Next.refl w1 F⟩
end Go.Proofs.Ytmlchbohijolaaa.Ar
