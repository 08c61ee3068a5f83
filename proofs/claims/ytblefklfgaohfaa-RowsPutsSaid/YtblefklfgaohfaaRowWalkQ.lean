/-
  Walks of stage 4: boltingref04.Kids, boltinglaw04.nums.
-/
import Derived.Test.YtblefklfgaohfaaRowWalkO
import Derived.Test.YtblefklfgaohfaaRowWalkE
namespace Go.Proofs.Ytblefklfgaohfaa.Ro
set_option linter.unusedVariables false
set_option linter.unusedSimpArgs false
open Go.RowKit Ba

/-- v is a slice of numbers of the call's own. -/
def Nw (N : Nat) (w : World) (v : Value) (l : List Nat) : Prop := w.ownsRow N 3 1 v l.length (l.map nv)
theorem Nw.made (w : World) : Nw w.heap.size (w.alloc (.cells #[] 3)) (.slice (some ⟨w.heap.size, 0, none⟩) 0 0) [] := World.ownsRow_made w #[] 0 (Nat.le_refl _) (Nat.zero_le _) rfl
theorem Nw.alloc {N : Nat} {w : World} {v : Value} {l : List Nat} (h : Nw N w v l) (o : Obj) : Nw N (w.alloc o) v l := World.ownsRow.alloc h o
theorem Nw.below {N M : Nat} {w w' : World} {v : Value} {l : List Nat} (h : Nw N w v l) (hb : Below M w w') (hM : w.heap.size ≤ M := by exact Nat.le_refl _) : Nw N w' v l := by
  refine ⟨h.1, ?_⟩
  rcases h.2 with hn | ⟨g, cap, cur, hv, hg, hh, rest⟩
  · exact .inl hn
  · refine .inr ⟨g, cap, cur, hv, hg, ?_, rest⟩
    have hlt : g < w.heap.size := (Array.getElem?_eq_some_iff.1 hh).1
    rw [hb.block g (by omega)]
    exact hh
/-- It reads as these numbers. -/
def Rn (w : World) (N : Nat) (A : Option Addr) (l : List Nat) : Prop := 0 < l.length → ∃ b off, A = some ⟨b, off, none⟩ ∧ b < N ∧ ∀ j (h : j < l.length), w.cell? ⟨b, off + j, none⟩ = some (.int .i64 (l[j] : Nat))
theorem Rn.below {w w' : World} {N M : Nat} {A : Option Addr} {l : List Nat} (h : Rn w N A l) (hb : Below M w w') (hN : N ≤ M := by exact Nat.le_refl _) : Rn w' N A l := fun h0 => by
  obtain ⟨b, off, e, hb1, hc⟩ := h h0
  exact ⟨b, off, e, hb1, fun j hj => (hb.cell (p := ⟨b, off + j, none⟩) (by show b < M; omega)).trans (hc j hj)⟩
theorem Nw.form {N : Nat} {w : World} {v : Value} {l : List Nat} (h : Nw N w v l) : ∃ A c, v = .slice A l.length c ∧ l.length ≤ c ∧ c ≤ maxLen ∧ Rn w w.heap.size A l := by
  rcases h.2 with ⟨hv, hl⟩ | ⟨g, cap, cur, hv, hg, hh, hn, hm, hs, ht⟩
  · have : l = [] := List.eq_nil_of_length_eq_zero hl
    subst this
    exact ⟨none, 0, hv, Nat.le_refl _, Nat.zero_le _, fun h => absurd h (by simp)⟩
  · refine ⟨some ⟨g, 0, none⟩, cap, hv, hn, hm, fun _ => ⟨g, 0, rfl, (Array.getElem?_eq_some_iff.1 hh).1, fun j hj => ?_⟩⟩
    subst hv
    have := World.ownsRow.cells h rfl j (nv l[j]) (by simp [hj])
    rw [WideShapes.add_plain] at this
    exact this
/-- append of one number, in a block of its own. -/
theorem app_num {ops : Array Oper} {rest : List Oper} {o : Oper} {a : Act} {Q : Exit → Act → World → Prop} (w : World) (hgd : o.guard = none) (s x : Operand)
    (ho : o.op = .call { callee := .builtin .append, args := #[s, x], argTypes := #[32, 32] })
    (N : Nat) (v : Value) (l : List Nat) (y : Nat) (hs : a.eval s = v) (hown : Nw N w v l) (g : Nat) (hg : g = w.heap.size) (hx : a.eval x = .slice (some ⟨g, 0, none⟩) 1 1)
    (hl : l.length ≤ 2000000) (hN : N ≤ w.heap.size)
    (h : ∀ v' w', Nw N w' v' (l ++ [y]) → (∀ w0, Below N w0 w → Below N w0 w') → wpList Try.prog ops Q rest (a.put o.dst v') w') :
    wpList Try.prog ops Q (o :: rest) a (w.alloc (.cells #[.int .i64 (y : Nat)] 3)) := by
  subst hg
  obtain ⟨i0, hi, hz0, hz1, hz2⟩ := info_parts infoI
  have hown' : Nw N (w.alloc (.cells #[.int .i64 (y : Nat)] 3)) v l := hown.alloc _
  have hsz : (w.alloc (.cells #[.int .i64 (y : Nat)] 3)).heap.size = w.heap.size + 1 := by simp
  refine wpList_append_own _ hgd s x 32 ho N 3 i0 (.int .i64 0) 1 8 Try.underlying32 hi hz0 hz1 hz2 rfl (by decide) v l.length (l.map nv) hs hown' ⟨w.heap.size, 0, none⟩ 1 1 [.int .i64 (y : Nat)] hx rfl (cell_one_new _ _ _) (by intro u hu; simp at hu; subst hu; rfl) (by unfold maxLen; omega) (by omega) (by omega) ?_
  intro v' w' ho2 hg2 _
  refine h v' w' ?_ fun w0 hb => (hb.alloc hN _).grown hg2 (by omega) fun k hk => (World.ownsRow.lt hown' k hk).1
  unfold Nw
  rw [List.length_append, List.map_append]
  exact ho2

theorem takeWhile_all {α : Type} (p : α → Bool) : ∀ l : List α, (∀ x ∈ l, p x = true) → l.takeWhile p = l
  | [], _ => rfl
  | x :: r, h => by rw [List.takeWhile_cons, if_pos (h x (by simp)), takeWhile_all p r fun y hy => h y (by simp [hy])]
theorem below_all {l : List Ro} (h : Deep l) : below l (-1) = l := by
  unfold below
  rw [show ((-1 : Int) + 1).toNat = 0 from rfl, List.drop_zero, dep_top]
  have : ∀ x ∈ l, decide ((-1 : Int) < x.depth) = true := fun x hx => decide_eq_true (by have := h x hx; omega)
  exact takeWhile_all _ l this

set_option maxRecDepth 100000 in
set_option maxHeartbeats 2000000 in
theorem refKids_any (A : Option Addr) (c : Nat) (l : List Cw) (i : Int) (w : World) (hr : Rr w w.heap.size A l) (hc : l.length ≤ c) (hm : l.length ≤ 1000000) (h1 : -1 ≤ i) (h2 : i < l.length) (hdp : Deep (ros l)) :
    Calls Try.prog 25 #[.slice A l.length c, .int .i64 i] w fun e w' => ∃ v, e = .returned v ∧ Nw w.heap.size w' v (kids (ros l) i) ∧ Below w.heap.size w w' := by
  have hi1 : decide (i < -1) = false := decide_eq_false (by omega)
  have hi2 : decide ((l.length : Int) ≤ i) = false := decide_eq_false (by omega)
  by_cases hi : i = -1
  · subst hi
    obtain ⟨V, hV⟩ : ∃ V, kids (ros l) (-1) = V := ⟨_, rfl⟩
    have hv0 : kidsFrom 0 0 (ros l) = V := by rw [← hV, kids, below_all hdp]; rfl
    rw [hV]
    have HV := Lib.hid hv0
    clear hV hv0
    go_enter Try.func25, Try.ntmps25
    go_wp2
    go_loopw [5, 6] (fun v i wr => ∃ (k : Nat) (acc : List Nat), i = .int .i64 k ∧ k ≤ l.length ∧ acc.length ≤ k ∧ Nw w.heap.size wr v acc ∧ acc ++ kidsFrom 0 k (ros (l.drop k)) = V ∧ Below w.heap.size w wr) (fun _ i _ => l.length - (intOf i).toNat)
    case atStart => exact ⟨0, [], rfl, by omega, by simp, Nw.made w, HV.out, below_new w _⟩
    case round =>
      clear HV
      obtain ⟨k, acc, rfl, hk, hal, hown, hv, hbel⟩ := hrel
      have hsz := hbel.size
      by_cases hp : k < l.length
      · obtain ⟨b, off, x, rfl, hb, hdx, hx, _, _⟩ := (hr.below hbel).at_ k hp
        have g0 := (range5 hx).1
        rw [hdx, ros_cons] at hv
        cases h5 : x.ro.depth == 0 with
        | true =>
          rw [kids_hit (beq_iff_eq.1 h5)] at hv
          have HV := Lib.hid hv; have HO := Lib.hid hown
          clear hv hown hdx hx
          go_wp2
          go_quiet (fail)
          have hacc : acc.length ≤ 2000000 := by omega
          go_wp2_with (at_builtin; refine app_num (wr.drewN nq) rfl (.tmp 65) (.tmp 67) rfl w.heap.size _ acc k rfl (by exact HO.out) wr.heap.size rfl rfl hacc hsz ?_; intro v3 w3 ho3 hk3)
          go_roundw
          case rel => exact ⟨k + 1, acc ++ [k], by go_num, by omega, by simp; omega, ho3, by rw [List.append_assoc]; exact HV.out, hk3 w (below_dN hbel nq)⟩
          case measure => simp [intOf]; omega
        | false =>
          rw [kids_miss (beq_eq_false_iff_ne.1 h5)] at hv
          have HV := Lib.hid hv; have HO := Lib.hid hown
          clear hv hown hdx hx
          go_wp2
          go_quiet (fail)
          go_wp2
          go_roundw
          case rel => exact ⟨k + 1, acc, by go_num, by omega, by omega, by exact HO.out, HV.out, below_dN hbel nq⟩
          case measure => simp [intOf]; omega
      · rw [List.drop_eq_nil_of_le (by omega)] at hv
        have HV := Lib.hid hv
        clear hv
        go_wp2
        go_ret
        exact ⟨_, rfl, by rw [← HV.out, show kidsFrom 0 k (ros []) = [] from rfl, List.append_nil]; exact hown, hbel⟩
  · obtain ⟨j, rfl⟩ := Int.eq_ofNat_of_zero_le (show 0 ≤ i by omega)
    have hj : j < l.length := by omega
    have hij : ((j : Int) == -1) = false := beq_eq_false_iff_ne.2 hi
    clear hi
    have hi3 : decide (l.length ≤ j) = false := decide_eq_false (by omega)
    obtain ⟨b0, off0, y, hA, _, hdy, hy, _, hym⟩ := hr.at_ j hj
    obtain ⟨d, hd⟩ : ∃ d, dep (ros l) j = d := ⟨_, rfl⟩
    have e : dep (ros l) j = y.ro.depth := dep_at (by rw [ros, List.getElem?_map, getElem_of_drop hdy]; rfl)
    obtain ⟨q1, q2⟩ := hdp.at_ hym
    rw [← e, hd] at q1 q2
    have hgy := (range5 hy).1
    rw [← e, hd] at hgy
    obtain ⟨E, hE⟩ : ∃ E, endOf (ros l) j = E := ⟨_, rfl⟩
    have hE1 := endOf_le (ros l) j (by rw [len_ros]; exact h2)
    rw [len_ros, hE] at hE1
    have hE2 := endOf_ge (ros l) j
    rw [hE] at hE2
    have hE3 : j + 1 ≤ E := by omega
    have hEa := endAt_yes (l := l) (i := j) (by omega) h2
    rw [hE] at hEa
    obtain ⟨V, hV⟩ : ∃ V, kids (ros l) j = V := ⟨_, rfl⟩
    have hv0 : kidsFrom (d + 1) (j + 1) (ros ((l.take E).drop (j + 1))) = V := by
      have e1 : ((j : Int) + 1).toNat = j + 1 := by omega
      rw [← hV, kids, below_part, hd, hE, e1, ros_part]
    rw [hV]
    have HV := Lib.hid hv0
    have HGY := Lib.hid hgy; have HA := Lib.hid hA; have HEA := Lib.hid hEa
    have hsum : IntKind.i64.wrap (d + 1) = d + 1 := IntWalk.i64_in _ (by omega)
    have HSUM := Lib.hid hsum
    clear hV hv0 hy hdy e hd hE hgy hA hE2 hEa hsum
    go_enter Try.func25, Try.ntmps25
    go_wp2
    go_loopw [5, 6] (fun v i wr => ∃ (k m : Nat) (acc : List Nat), i = .int .i64 k ∧ k ≤ l.length ∧ acc.length ≤ k ∧ Nw w.heap.size wr v acc ∧ acc ++ kidsFrom (d + 1) m (ros ((l.take E).drop m)) = V ∧ (k ≤ j → m = j + 1) ∧ (j < k → m = k) ∧ Below w.heap.size w wr) (fun _ i _ => l.length - (intOf i).toNat)
    case atStart => exact ⟨0, j + 1, [], rfl, by omega, by simp, Nw.made w, HV.out, fun _ => rfl, fun h => by omega, below_new w _⟩
    case round =>
      clear HV
      obtain ⟨k, m, acc, rfl, hk, hal, hown, hv, hm1, hm2, hbel⟩ := hrel
      have hsz := hbel.size
      have HM1 := Lib.hid hm1; have HM2 := Lib.hid hm2; have HO := Lib.hid hown
      clear hm1 hm2 hown
      by_cases hp : k < l.length
      · obtain ⟨b, off, x, hA, hb, hdx, hx, _, _⟩ := (hr.below hbel).at_ k hp
        have hgy := HGY.out
        have ho : b0 = b ∧ off0 = off := by
          have := HA.out
          rw [hA] at this
          injection this with this
          injection this with e1 e2
          exact ⟨e1.symm, e2.symm⟩
        obtain ⟨rfl, rfl⟩ := ho
        have hq : ∀ n, Calls Try.prog 20 #[.slice A l.length c, .int .i64 j] (wr.drewN n) fun e w'' => e = .returned (.int .i64 E) ∧ ∃ m, w'' = wr.drewN m := fun n => by
          have := Calls.quiet_of (refEnd_any A c l j (wr.drewN n) (by exact (hr.below hbel).more hsz) hc hm)
          rwa [HEA.out] at this
        rw [hA] at hq
        have HQ := Lib.hid hq
        have g0 := (range5 hx).1
        have gy : wr.cell? ⟨b0, off0 + j * 5, none⟩ = some (.int .i64 d) := (hbel.cell (p := ⟨b0, off0 + j * 5, none⟩) hb).trans hgy
        have hsum := HSUM.out
        clear hq hx hgy
        subst hA
        by_cases h3 : k ≤ j
        · have h3' : decide (j < k) = false := decide_eq_false (by omega)
          have HV := Lib.hid hv
          clear hv hdx
          go_wp2
          go_quiet ((go_at_call 20; exact HQ.out _))
          clear hsum
          go_wp2
          go_roundw
          case rel => exact ⟨k + 1, m, acc, by go_num, by omega, by omega, by exact HO.out, HV.out, fun h => HM1.out h3, fun h => by have := HM1.out h3; omega, below_dN hbel nq⟩
          case measure => simp [intOf]; omega
        · have h3' : j < k := by omega
          have hmk : k = m := (HM2.out h3').symm
          subst hmk
          by_cases h4 : k < E
          · rw [part_step h4 hdx, ros_cons] at hv
            cases h5 : x.ro.depth == d + 1 with
            | true =>
              rw [kids_hit (beq_iff_eq.1 h5)] at hv
              have HV := Lib.hid hv
              clear hv hdx
              go_wp2
              go_quiet ((go_at_call 20; exact HQ.out _))
              clear hsum
              have hacc : acc.length ≤ 2000000 := by omega
              go_wp2_with (at_builtin; refine app_num (wr.drewN nq) rfl (.tmp 65) (.tmp 67) rfl w.heap.size _ acc k rfl (by exact HO.out) wr.heap.size rfl rfl hacc hsz ?_; intro v3 w3 ho3 hk3)
              go_roundw
              case rel => exact ⟨k + 1, k + 1, acc ++ [k], by go_num, by omega, by simp; omega, ho3, by rw [List.append_assoc]; exact HV.out, fun h => by omega, fun _ => rfl, hk3 w (below_dN hbel nq)⟩
              case measure => simp [intOf]; omega
            | false =>
              rw [kids_miss (beq_eq_false_iff_ne.1 h5)] at hv
              have HV := Lib.hid hv
              clear hv hdx
              go_wp2
              go_quiet ((go_at_call 20; exact HQ.out _))
              clear hsum
              go_wp2
              go_roundw
              case rel => exact ⟨k + 1, k + 1, acc, by go_num, by omega, by omega, by exact HO.out, HV.out, fun h => by omega, fun _ => rfl, below_dN hbel nq⟩
              case measure => simp [intOf]; omega
          · have h4' : decide (k < E) = false := decide_eq_false h4
            rw [List.drop_eq_nil_of_le (by rw [List.length_take]; omega)] at hv
            have HV := Lib.hid hv
            clear hv hdx
            go_wp2
            go_quiet ((go_at_call 20; exact HQ.out _))
            clear hsum
            go_wp2
            go_roundw
            case rel => exact ⟨k + 1, k + 1, acc, by go_num, by omega, by omega, by exact HO.out, by rw [List.drop_eq_nil_of_le (by rw [List.length_take]; omega)]; exact HV.out, fun h => by omega, fun _ => rfl, below_dN hbel nq⟩
            case measure => simp [intOf]; omega
      · have hmk : k = m := (HM2.out (by omega)).symm
        subst hmk
        rw [List.drop_eq_nil_of_le (by rw [List.length_take]; omega)] at hv
        have HV := Lib.hid hv
        clear hv
        go_wp2
        go_ret
        exact ⟨_, rfl, by rw [← HV.out, show kidsFrom (d + 1) k (ros []) = [] from rfl, List.append_nil]; exact HO.out, hbel⟩

end Go.Proofs.Ytblefklfgaohfaa.Ro
