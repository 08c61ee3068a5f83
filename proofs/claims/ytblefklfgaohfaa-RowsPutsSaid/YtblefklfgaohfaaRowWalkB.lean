/-
  Walks of stage 4: where a tree ends, its parent (rows.endOf, End, Parent; boltingref04.End, Parent).
-/
import Derived.Test.YtblefklfgaohfaaRowWalkA
namespace Go.Proofs.Ytblefklfgaohfaa.Ro
set_option linter.unusedVariables false
set_option linter.unusedSimpArgs false
open Go.RowKit Ba

theorem same_quiet {P : Program} {f : FuncId} {args : Array Value} {w : World} {n : Nat} {v : Value}
    (h : Calls P f args (w.drewN n) fun e w' => e = .returned v ∧ w.drewN n = w') : Calls P f args (w.drewN n) fun e w'' => e = .returned v ∧ ∃ m, w'' = w.drewN m :=
  h.mono fun _ _ ⟨he, hm⟩ => ⟨he, n, hm.symm⟩
theorem Rr.drewN {w : World} {N : Nat} {A : Option Addr} {l : List Cw} (h : Rr w N A l) (k : Nat) : Rr (w.drewN k) N A l := h

theorem take_step {l : List Cw} {e : Nat} {x : Cw} {p : Ro → Bool} (hd : l.drop e = x :: l.drop (e + 1)) (h : p x.ro = true) : ((ros (l.drop e)).takeWhile p).length = ((ros (l.drop (e + 1))).takeWhile p).length + 1 := by
  rw [hd, ros_cons, List.takeWhile_cons, if_pos h, List.length_cons]
theorem take_stop {l : List Cw} {e : Nat} {x : Cw} {p : Ro → Bool} (hd : l.drop e = x :: l.drop (e + 1)) (h : p x.ro = false) : ((ros (l.drop e)).takeWhile p).length = 0 := by
  rw [hd, ros_cons, List.takeWhile_cons, if_neg (by rw [h]; decide)]
  rfl
theorem endOf_ge (l : List Ro) (i : Int) : (i + 1).toNat ≤ endOf l i := Nat.le_add_right _ _
theorem endOf_le (l : List Ro) (i : Int) (h : i < l.length) : endOf l i ≤ l.length := by
  unfold endOf below
  have := List.Sublist.length_le (List.takeWhile_sublist (fun x => decide (dep l i < x.depth)) (l := l.drop (i + 1).toNat))
  rw [List.length_drop] at this
  omega

set_option maxRecDepth 100000 in
theorem endOf_any (A : Option Addr) (c : Nat) (l : List Cw) (i : Int) (w : World) (hr : Rr w w.heap.size A l) (hc : l.length ≤ c) (hm : l.length ≤ 1000000) (h1 : -1 ≤ i) (h2 : i < l.length) :
    Calls Try.prog 43 #[.slice A l.length c, .int .i64 i] w fun e w' => e = .returned (.int .i64 (endOf (ros l) i)) ∧ w = w' := by
  obtain ⟨d, hd⟩ : ∃ d, dep (ros l) i = d := ⟨_, rfl⟩
  obtain ⟨E, hE⟩ : ∃ E, endOf (ros l) i = E := ⟨_, rfl⟩
  have hs : (i + 1).toNat + ((ros (l.drop (i + 1).toNat)).takeWhile fun x => decide (d < x.depth)).length = E := by rw [← hE, ← hd, ← ros_drop]; rfl
  obtain ⟨k0, hk0⟩ : ∃ k0 : Nat, (i + 1).toNat = k0 := ⟨_, rfl⟩
  have hk1 : i + 1 = (k0 : Int) := by omega
  have hk2 : k0 ≤ l.length := by omega
  rw [hk0] at hs
  rw [hE]
  have HD := Lib.hid hd; have HS := Lib.hid hs; have HK := Lib.hid hk1
  clear hd hs hE hk0 hk1
  go_enter Try.func43, Try.ntmps43
  go_wp2_with fail
  refine (depthOf_any A c l i w hr hc hm h1 h2).mono ?_
  rintro e w1 ⟨rfl, rfl⟩
  rw [HD.out]
  clear HD
  go_wp2
  rw [HK.out]
  clear HK
  go_loop [6] (fun v => ∃ k : Nat, v = .int .i64 k ∧ k ≤ l.length ∧ k + ((ros (l.drop k)).takeWhile fun x => decide (d < x.depth)).length = E) (fun v => l.length - (intOf v).toNat)
  case atStart => exact ⟨k0, rfl, hk2, HS.out⟩
  case round =>
    clear HS hk2
    obtain ⟨k, rfl, hk, hv⟩ := hrel
    by_cases hp : k < l.length
    · obtain ⟨b, off, x, rfl, hb, hd, hx, _, _⟩ := hr.at_ k hp
      have hg := (range5 hx).1
      clear hx
      by_cases h3 : d < x.ro.depth
      · rw [take_step hd (decide_eq_true h3)] at hv
        have HV := Lib.hid hv
        clear hv hd
        go_wp2
        go_round
        case rel => exact ⟨k + 1, by go_num, by omega, by have := HV.out; omega⟩
        case measure => simp [intOf]; omega
      · rw [take_stop hd (decide_eq_false h3)] at hv
        have HV := Lib.hid hv
        have h3' : decide (d < x.ro.depth) = false := decide_eq_false h3
        clear hv hd
        go_wp2
        go_ret
        exact ⟨ret_int (by rw [← HV.out]; rfl), rfl⟩
    · rw [List.drop_eq_nil_of_le (by omega)] at hv
      have HV := Lib.hid hv
      clear hv
      go_wp2
      go_ret
      exact ⟨ret_int (by rw [← HV.out]; rfl), rfl⟩

theorem hasRow_yes {l : List Cw} {i : Int} (h0 : 0 ≤ i) (h1 : i < l.length) : hasRow (ros l) i = true := decide_eq_true ⟨h0, by rw [len_ros]; exact h1⟩
theorem hasRow_no {l : List Cw} {i : Int} (h : ¬ (0 ≤ i ∧ i < l.length)) : hasRow (ros l) i = false := decide_eq_false fun e => h (by rw [len_ros] at e; exact e)
theorem endAt_yes {l : List Cw} {i : Int} (h0 : 0 ≤ i) (h1 : i < l.length) : endAt (ros l) i = endOf (ros l) i := by rw [endAt, hasRow_yes h0 h1]; rfl
theorem endAt_no {l : List Cw} {i : Int} (h : ¬ (0 ≤ i ∧ i < l.length)) : endAt (ros l) i = 0 := by rw [endAt, hasRow_no h]; rfl

theorem hasYes_any (A : Option Addr) (n c : Nat) (i : Int) (w : World) (h : n ≤ c) (h0 : 0 ≤ i) (h1 : i < n) : Calls Try.prog 42 #[.slice A n c, .int .i64 i] w fun e w' => e = .returned (.bool true) ∧ w = w' := by
  have := has_any A n c i w h
  rwa [decide_eq_true (⟨h0, h1⟩ : 0 ≤ i ∧ i < n)] at this
theorem hasNo_any (A : Option Addr) (n c : Nat) (i : Int) (w : World) (h : n ≤ c) (h0 : ¬ (0 ≤ i ∧ i < n)) : Calls Try.prog 42 #[.slice A n c, .int .i64 i] w fun e w' => e = .returned (.bool false) ∧ w = w' := by
  have := has_any A n c i w h
  rwa [decide_eq_false h0] at this

theorem End_any (A : Option Addr) (c : Nat) (l : List Cw) (i : Int) (w : World) (hr : Rr w w.heap.size A l) (hc : l.length ≤ c) (hm : l.length ≤ 1000000) :
    Calls Try.prog 19 #[.slice A l.length c, .int .i64 i] w fun e w' => e = .returned (.int .i64 (endAt (ros l) i)) ∧ w = w' := by
  by_cases h : 0 ≤ i ∧ i < l.length
  · rw [endAt_yes h.1 h.2]
    go_enter Try.func19, Try.ntmps19
    go_wp2_with fail
    refine (hasYes_any A _ c i w hc h.1 h.2).mono ?_
    rintro e w1 ⟨rfl, rfl⟩
    go_wp2_with fail
    refine (endOf_any A c l i w hr hc hm (by omega) h.2).mono ?_
    rintro e w1 ⟨rfl, rfl⟩
    go_wp2
    go_ret
    exact ⟨rfl, rfl⟩
  · rw [endAt_no h]
    go_enter Try.func19, Try.ntmps19
    go_wp2_with fail
    refine (hasNo_any A _ c i w hc h).mono ?_
    rintro e w1 ⟨rfl, rfl⟩
    go_wp2
    go_ret
    exact ⟨rfl, rfl⟩

set_option maxRecDepth 100000 in
theorem refEnd_any (A : Option Addr) (c : Nat) (l : List Cw) (i : Int) (w : World) (hr : Rr w w.heap.size A l) (hc : l.length ≤ c) (hm : l.length ≤ 1000000) :
    Calls Try.prog 20 #[.slice A l.length c, .int .i64 i] w fun e w' => e = .returned (.int .i64 (endAt (ros l) i)) ∧ ∃ n, w' = w.drewN n := by
  by_cases h : 0 ≤ i ∧ i < l.length
  · rw [endAt_yes h.1 h.2]
    obtain ⟨h1, h2⟩ := h
    obtain ⟨j, rfl⟩ := Int.eq_ofNat_of_zero_le h1
    obtain ⟨d, hd⟩ : ∃ d, dep (ros l) j = d := ⟨_, rfl⟩
    obtain ⟨E, hE⟩ : ∃ E, endOf (ros l) j = E := ⟨_, rfl⟩
    have hs : j + 1 + ((ros (l.drop (j + 1))).takeWhile fun x => decide (d < x.depth)).length = E := by
      rw [← hE, ← hd, ← ros_drop]
      have e : ((j : Int) + 1).toNat = j + 1 := by omega
      simp only [endOf, below, e]
    rw [hE]
    have hj : j < l.length := by omega
    obtain ⟨b, off, y, rfl, hb, hdy, hy, _, _⟩ := hr.at_ j hj
    have e : dep (ros l) j = y.ro.depth := dep_at (by rw [ros, List.getElem?_map, getElem_of_drop hdy]; rfl)
    have hgy := (range5 hy).1
    rw [← e, hd] at hgy
    have HS := Lib.hid hs
    clear hd hs hE hy hdy e
    have hj' : decide (l.length ≤ j) = false := decide_eq_false (by omega)
    go_enter Try.func20, Try.ntmps20
    go_wp2
    go_loopw [5] (fun v wr => ∃ k : Nat, v = .int .i64 k ∧ k ≤ l.length ∧ k + ((ros (l.drop k)).takeWhile fun x => decide (d < x.depth)).length = E ∧ ∃ n, wr = w.drewN n) (fun v _ => l.length - (intOf v).toNat)
    case atStart => exact ⟨j + 1, by go_num, by omega, HS.out, 0, rfl⟩
    case round =>
      clear HS
      obtain ⟨k, rfl, hk, hv, n, rfl⟩ := hrel
      by_cases hp : k < l.length
      · obtain ⟨b', off', x, e, hb, hd, hx, _, _⟩ := hr.at_ k hp
        injection e with e
        injection e with e1 e2
        subst e1 e2
        have hg := (range5 hx).1
        clear hx
        by_cases h3 : d < x.ro.depth
        · rw [take_step hd (decide_eq_true h3)] at hv
          have HV := Lib.hid hv
          clear hv hd
          go_wp2
          go_quiet (fail)
          go_wp2
          go_roundw
          case rel => exact ⟨k + 1, by go_num, by omega, by have := HV.out; omega, _, rfl⟩
          case measure => simp [intOf]; omega
        · rw [take_stop hd (decide_eq_false h3)] at hv
          have HV := Lib.hid hv
          clear hv hd
          go_wp2
          go_quiet (fail)
          go_wp2
          go_ret
          exact ⟨ret_int (by rw [← HV.out]; rfl), _, World.drewN_drewN _ _ _⟩
      · rw [List.drop_eq_nil_of_le (by omega)] at hv
        have HV := Lib.hid hv
        clear hv
        go_wp2
        go_ret
        exact ⟨ret_int (by rw [← HV.out]; simp [ros]; omega), _, rfl⟩
  · rw [endAt_no h]
    by_cases h1 : i < 0
    · go_enter Try.func20, Try.ntmps20
      go_wp2
      go_ret
      exact ⟨rfl, 0, rfl⟩
    · have h1' : decide (i < 0) = false := decide_eq_false h1
      have h2 : (l.length : Int) ≤ i := by omega
      clear h
      go_enter Try.func20, Try.ntmps20
      go_wp2
      go_ret
      exact ⟨rfl, 0, rfl⟩

theorem up_stop {l : List Ro} {d : Int} {k : Nat} (h : dep l k < d) : up l d (k + 1) = k := if_pos h
theorem up_on {l : List Ro} {d : Int} {k : Nat} (h : ¬ dep l k < d) : up l d (k + 1) = up l d k := if_neg h

set_option maxRecDepth 100000 in
theorem Parent_any (A : Option Addr) (c : Nat) (l : List Cw) (i : Int) (w : World) (hr : Rr w w.heap.size A l) (hc : l.length ≤ c) (hm : l.length ≤ 1000000) :
    Calls Try.prog 21 #[.slice A l.length c, .int .i64 i] w fun e w' => e = .returned (.int .i64 (parent (ros l) i)) ∧ ∃ n, w' = w.drewN n := by
  by_cases h : 0 ≤ i ∧ i < l.length
  · rw [parent, hasRow_yes h.1 h.2, if_pos rfl]
    obtain ⟨h1, h2⟩ := h
    obtain ⟨j, rfl⟩ := Int.eq_ofNat_of_zero_le h1
    rw [Int.toNat_natCast]
    obtain ⟨d, hd⟩ : ∃ d, dep (ros l) j = d := ⟨_, rfl⟩
    rw [hd]
    obtain ⟨E, hE⟩ : ∃ E, up (ros l) d j = E := ⟨_, rfl⟩
    rw [hE]
    have hj : j < l.length := by omega
    obtain ⟨b, off, y, rfl, hb, hdy, hy, _, _⟩ := hr.at_ j hj
    have e : dep (ros l) j = y.ro.depth := dep_at (by rw [ros, List.getElem?_map, getElem_of_drop hdy]; rfl)
    have hgy := (range5 hy).1
    rw [← e, hd] at hgy
    have HE := Lib.hid hE
    clear hd hE hy hdy e
    go_enter Try.func21, Try.ntmps21
    go_wp2_with fail
    refine (hasYes_any _ _ c j w hc h1 h2).mono ?_
    rintro e w1 ⟨rfl, rfl⟩
    go_wp2
    go_loopw [5] (fun v wr => ∃ k : Nat, v = .int .i64 ((k : Int) - 1) ∧ k ≤ j ∧ up (ros l) d k = E ∧ ∃ n, wr = w.drewN n) (fun v _ => (intOf v + 1).toNat)
    case atStart => exact ⟨j, rfl, by omega, HE.out, 0, rfl⟩
    case round =>
      clear HE
      obtain ⟨k, rfl, hk, hv, n, rfl⟩ := hrel
      cases k with
      | zero =>
        have HV := Lib.hid hv
        clear hv
        rw [show (((0 : Nat) : Int) - 1) = -1 from rfl]
        go_wp2
        go_quiet (fail)
        go_wp2
        go_ret
        exact ⟨ret_int (by rw [← HV.out]; rfl), _, World.drewN_drewN _ _ _⟩
      | succ k =>
        rw [show (((k + 1 : Nat) : Int) - 1) = (k : Int) from by omega]
        obtain ⟨b', off', x, e, hb, hdx, hx, _, _⟩ := hr.at_ k (by omega)
        injection e with e
        injection e with e1 e2
        subst e1 e2
        have hg := (range5 hx).1
        have e : dep (ros l) k = x.ro.depth := dep_at (by rw [ros, List.getElem?_map, getElem_of_drop hdx]; rfl)
        by_cases h3 : x.ro.depth < d
        · rw [up_stop (by rw [e]; exact h3)] at hv
          have HV := Lib.hid hv
          clear hv hx hdx e
          go_wp2
          go_quiet (fail)
          go_wp2
          go_ret
          exact ⟨ret_int (by rw [← HV.out]), _, World.drewN_drewN _ _ _⟩
        · rw [up_on (by rw [e]; exact h3)] at hv
          have HV := Lib.hid hv
          clear hv hx hdx e
          go_wp2
          go_quiet (fail)
          go_wp2
          go_roundw
          case rel => exact ⟨k, rfl, by omega, HV.out, _, rfl⟩
          case measure => simp [intOf]
  · rw [parent, hasRow_no h, if_neg (by decide)]
    go_enter Try.func21, Try.ntmps21
    go_wp2_with fail
    refine (hasNo_any A _ c i w hc h).mono ?_
    rintro e w1 ⟨rfl, rfl⟩
    go_wp2
    go_ret
    exact ⟨rfl, 0, rfl⟩

theorem last_step {l : List Ro} {d p : Int} {k n : Nat} (h : k < n) : lastAt l d p k (n - k) = lastAt l d (if dep l k = d then k else p) (k + 1) (n - (k + 1)) := by
  obtain ⟨m, hm⟩ : ∃ m, n - k = m + 1 := ⟨n - k - 1, by omega⟩
  rw [hm, show n - (k + 1) = m from by omega]
  rfl
/-- Depths that do not wrap. -/
def Deep (l : List Ro) : Prop := ∀ x ∈ l, 0 ≤ x.depth ∧ x.depth ≤ 1000000
theorem Deep.at_ {l : List Cw} (h : Deep (ros l)) {x : Cw} (hx : x ∈ l) : 0 ≤ x.ro.depth ∧ x.ro.depth ≤ 1000000 := h _ (List.mem_map.2 ⟨x, hx, rfl⟩)
def refParent (l : List Ro) (i : Int) : Int := if hasRow l i then lastAt l (dep l i - 1) (-1) 0 i.toNat else -1

set_option maxRecDepth 100000 in
theorem refParent_any (A : Option Addr) (c : Nat) (l : List Cw) (i : Int) (w : World) (hr : Rr w w.heap.size A l) (hc : l.length ≤ c) (hm : l.length ≤ 1000000) (hdp : Deep (ros l)) :
    Calls Try.prog 22 #[.slice A l.length c, .int .i64 i] w fun e w' => e = .returned (.int .i64 (refParent (ros l) i)) ∧ ∃ n, w' = w.drewN n := by
  by_cases h : 0 ≤ i ∧ i < l.length
  · rw [refParent, hasRow_yes h.1 h.2, if_pos rfl]
    obtain ⟨h1, h2⟩ := h
    obtain ⟨j, rfl⟩ := Int.eq_ofNat_of_zero_le h1
    rw [Int.toNat_natCast]
    obtain ⟨d, hd⟩ : ∃ d, dep (ros l) j = d := ⟨_, rfl⟩
    rw [hd]
    obtain ⟨E, hE⟩ : ∃ E, lastAt (ros l) (d - 1) (-1) 0 j = E := ⟨_, rfl⟩
    rw [hE]
    have hj : j < l.length := by omega
    obtain ⟨b, off, y, rfl, hb, hdy, hy, _, hym⟩ := hr.at_ j hj
    have e : dep (ros l) j = y.ro.depth := dep_at (by rw [ros, List.getElem?_map, getElem_of_drop hdy]; rfl)
    obtain ⟨q1, q2⟩ := hdp.at_ hym
    rw [← e, hd] at q1 q2
    have hgy := (range5 hy).1
    rw [← e, hd] at hgy
    have HE := Lib.hid hE
    have HDP := Lib.hid hdp
    clear hd hE hy hdy e hdp
    go_enter Try.func22, Try.ntmps22
    go_wp2
    go_loopw [5, 6] (fun p v wr => ∃ (k : Nat) (q : Int), v = .int .i64 k ∧ p = .int .i64 q ∧ k ≤ j ∧ lastAt (ros l) (d - 1) q k (j - k) = E ∧ ∃ n, wr = w.drewN n) (fun _ v _ => j - (intOf v).toNat)
    case atStart => exact ⟨0, -1, rfl, rfl, by omega, HE.out, 0, rfl⟩
    case round =>
      clear HE
      obtain ⟨k, q, rfl, rfl, hk, hv, n, rfl⟩ := hrel
      by_cases hp : k < j
      · obtain ⟨b', off', x, e, hb, hdx, hx, _, _⟩ := hr.at_ k (by omega)
        injection e with e
        injection e with e1 e2
        subst e1 e2
        have hg := (range5 hx).1
        have e : dep (ros l) k = x.ro.depth := dep_at (by rw [ros, List.getElem?_map, getElem_of_drop hdx]; rfl)
        rw [last_step hp, e] at hv
        have hsub : IntKind.i64.wrap (d - 1) = d - 1 := IntWalk.i64_in _ (by omega)
        by_cases h3 : x.ro.depth = d - 1
        · rw [if_pos h3] at hv
          have h3' : (x.ro.depth == d - 1) = true := beq_iff_eq.2 h3
          have HV := Lib.hid hv
          clear hv hx hdx e h3
          go_wp2
          go_quiet (fail)
          go_wp2
          go_roundw
          case rel => exact ⟨k + 1, k, by go_num, rfl, by omega, HV.out, _, rfl⟩
          case measure => simp [intOf]; omega
        · rw [if_neg h3] at hv
          have h3' : (x.ro.depth == d - 1) = false := beq_eq_false_iff_ne.2 h3
          have HV := Lib.hid hv
          clear hv hx hdx e h3
          go_wp2
          go_quiet (fail)
          go_wp2
          go_roundw
          case rel => exact ⟨k + 1, q, by go_num, rfl, by omega, HV.out, _, rfl⟩
          case measure => simp [intOf]; omega
      · rw [show j - k = 0 from by omega] at hv
        have HV := Lib.hid hv
        clear hv
        go_wp2
        go_ret
        exact ⟨ret_int (by rw [← HV.out]; rfl), _, rfl⟩
  · rw [refParent, hasRow_no h, if_neg (by decide)]
    by_cases h1 : i ≤ 0
    · clear h
      have hi : decide (0 < i) = false := decide_eq_false (by omega)
      go_enter Try.func22, Try.ntmps22
      go_wp2
      go_loop [5, 6] (fun p v => p = .int .i64 (-1) ∧ v = .int .i64 0) (fun _ _ => 0)
      case atStart => exact ⟨rfl, rfl⟩
      case round =>
        obtain ⟨rfl, rfl⟩ := hrel
        go_wp2
        go_ret
        exact ⟨rfl, 0, rfl⟩
    · have hi : decide (i < l.length) = false := decide_eq_false (by omega)
      have hi0 : 0 < i := by omega
      clear h
      go_enter Try.func22, Try.ntmps22
      go_wp2
      go_loop [5, 6] (fun p v => p = .int .i64 (-1) ∧ v = .int .i64 0) (fun _ _ => 0)
      case atStart => exact ⟨rfl, rfl⟩
      case round =>
        obtain ⟨rfl, rfl⟩ := hrel
        go_wp2
        go_ret
        exact ⟨rfl, 0, rfl⟩

end Go.Proofs.Ytblefklfgaohfaa.Ro
