/-
  Walk of stage 12: the law's Bound.
  What is plain: the configuration, and what it keeps. It speaks of no program.
  fold.merged.
  fold.Find, of a list that rises.
  fold.Sorted, which calls itself, and fold.Minus.
  boltingref02.Minus and boltingref02.Sorted.
  risk.Element.
  Walks of stage 12: copied, safe, neverSafe; the document's Unsafe, Minus.
-/
import Derived.Test.YthiimnlilfcfeaaCk02
import Derived.Laws.Small
import Derived.Test.YthiimnlilfcfeaaCk01
import Derived.Deep.RegionWith
namespace Go.Proofs.Ythiimnlilfcfeaa.Co
set_option maxRecDepth 100000
set_option linter.unusedVariables false
set_option linter.unusedSimpArgs false
open Go.RowKit Ba Fm Fo Nm Rk
/-- Lists of at most 70, of at most 12 elements with their own. -/
def boundC (c : Cf) : Cf := ⟨c.allow, c.attrsAllow, c.els.take 70, c.reps.take 70, c.ats.take 70, (c.per.take 12).map fun p => ⟨p.el, p.at_.take 70⟩, c.comments, c.dataAttrs⟩
theorem min_named (x m k : Nat) (hk : min x m = k) (M : Int) (hM : M = m) (ts : Array TypeId) (t : TypeId) (w : World) : (Builtin.min_ ts t #[.int .i64 x, .int .i64 M]).run Try.prog w = .ok (.int .i64 k) w := by
  rw [run_min_int2]
  congr 2
  split <;> omega
theorem sx_snoc {w w' : World} {N : Nat} {acc : List Pw} {z : Pw} (h : ∀ y ∈ acc, Sx w N y) (hz : Sx w N z) (hb : Below N w w') : ∀ y ∈ acc ++ [z], Sx w' N y := fun y hy => by
  rcases List.mem_append.1 hy with h1 | h1
  · exact (h y h1).below hb
  · obtain rfl := List.mem_singleton.1 h1
    exact hz.below hb
theorem po_kept {N : Nat} {w W : World} {v : Value} {l : List Pw} (h : Po N w v l) (hs : ∀ z ∈ l, Sx W W.heap.size z) (hk : ∀ b, N ≤ b → b < w.heap.size → W.heap[b]? = w.heap[b]?) (hz : w.heap.size ≤ W.heap.size) : Pv W W.heap.size v l := by
  obtain ⟨A, c, e, h1, _, h2, h3⟩ := h.form
  refine ⟨A, c, e, h1, h2, fun h0 => ?_, hs⟩
  obtain ⟨b, off, eA, hb, hc⟩ := h3.1 h0
  have hN : N ≤ b := (World.ownsRow.lt h.1 b (by rw [e, eA]; simp [Value.ownBlock])).1
  exact ⟨b, off, eA, by omega, fun j hj => range_keep12 (hc j hj) fun o => World.cell?_of_block (a := ⟨b, o, none⟩) (hk b hN hb)⟩
theorem step_min {ops : Array Oper} {o : Oper} {a : Act} {K : Act → World → Prop} {Q : Exit → Act → World → Prop} {E : Prop} (W : World) (hgd : o.guard = none) (x : Operand)
    (ho : o.op = .call { callee := .builtin .min, args := #[x, .const (.int .i64 70)], argTypes := #[3, 3] }) (n m : Nat) (hm : min n 70 = m) (hx : a.eval x = .int .i64 n) (h : K (a.put o.dst (.int .i64 m)) W) :
    if Region.wanted o (yielded ops a.tmps) = true then Oper.wp Try.prog o a W K Q else E := by
  rw [if_pos (show Region.wanted o (yielded ops a.tmps) = true by simp [Region.wanted, hgd])]
  have hrun := fun ts t => min_named n 70 m hm 70 rfl ts t W
  have hc : a.eval (.const (.int .i64 70)) = .int .i64 70 := rfl
  unfold Oper.wp
  simp [execOp, ho, resolve, invoke, builtin, hx, hc, hrun, Result.andThen]
  exact h
theorem sv_takeC {w : World} {N c m : Nat} {A : Option Addr} {l : List ByteArray} (h : Sv w N (.slice A l.length c) l) (k : Nat) (hm : min l.length k = m) : Sv w N (.slice A m c) (l.take k) := by
  obtain ⟨A', c', e, hc, hn, hr⟩ := h
  injection e with e1 e2 e3
  subst e1 e3
  have e : (l.take k).length = m := by rw [List.length_take, Nat.min_comm]; exact hm
  exact ⟨A, c, by rw [e], by rw [e]; omega, hn, hr.take k⟩
theorem cut_snoc {l : List Pw} {k : Nat} {x : Pw} {acc : List Pw} (h : l[k]? = some x) (ha : pes acc = (pes (l.take k)).map fun p => ⟨p.el, p.at_.take 70⟩) (z : Pw) (hz : z.pe = ⟨x.pe.el, x.pe.at_.take 70⟩) : pes (acc ++ [z]) = (pes (l.take (k + 1))).map fun p => ⟨p.el, p.at_.take 70⟩ := by
  have hk : k < l.length := (List.getElem?_eq_some_iff.1 h).1
  have hx : l[k] = x := (List.getElem?_eq_some_iff.1 h).2
  rw [List.take_succ_eq_append_getElem hk, pes_append, pes_append, hx, List.map_append, ha]
  simp [pes, hz]
theorem ap_cut {w : World} {N M : Nat} {x : Pw} (h : Sx w N x) (hN : N ≤ M) (z : Pw) (hA : z.A = x.A) (hz : z.pe.at_.length ≤ x.pe.at_.length) : Ap w M z := fun h0 => by
  obtain ⟨A, c, e, _, _, hr⟩ := h
  injection e with e1 e2 e3
  obtain ⟨b, off, e', hb, _⟩ := hr (by omega)
  exact ⟨b, off, by rw [hA, e1, e'], .inl (by omega)⟩
set_option maxRecDepth 100000 in
set_option maxHeartbeats 2000000 in
theorem bound12 (v : Value) (c : Cf) (w : World) (h : Cv w w.heap.size v c) :
    Calls Try.prog 11 #[v] w fun r w' => ∃ v', r = .returned v' ∧ Cv w' w'.heap.size v' (boundC c) ∧ Below w.heap.size w w' := by
  obtain ⟨vE, vR, vA, vP, l, rfl, h⟩ := h
  obtain ⟨al, aa, els, reps, ats, per, cm, da⟩ := c
  obtain ⟨E, ce, rfl, he1, he2, he3⟩ := h.e
  obtain ⟨R, cr, rfl, hr1, hr2, hr3⟩ := h.r
  obtain ⟨T, ct, rfl, ht1, ht2, ht3⟩ := h.a
  obtain ⟨A, cp, rfl, hp1, hp2, hp3⟩ := h.p
  obtain ⟨n1, hn1⟩ : ∃ n, els.length = n := ⟨_, rfl⟩
  obtain ⟨n2, hn2⟩ : ∃ n, reps.length = n := ⟨_, rfl⟩
  obtain ⟨n3, hn3⟩ : ∃ n, ats.length = n := ⟨_, rfl⟩
  obtain ⟨m1, hm1⟩ : ∃ n, min n1 70 = n := ⟨_, rfl⟩
  obtain ⟨m2, hm2⟩ : ∃ n, min n2 70 = n := ⟨_, rfl⟩
  obtain ⟨m3, hm3⟩ : ∃ n, min n3 70 = n := ⟨_, rfl⟩
  have q1 := fun ts t w => min_named n1 70 m1 hm1 70 rfl ts t w
  have q2 := fun ts t w => min_named n2 70 m2 hm2 70 rfl ts t w
  have q3 := fun ts t w => min_named n3 70 m3 hm3 70 rfl ts t w
  have u1 : m1 ≤ ce := by simp only at he1; omega
  have u2 : m2 ≤ cr := by simp only at hr1; omega
  have u3 : m3 ≤ ct := by simp only at ht1; omega
  simp only
  rw [hn1, hn2, hn3]
  have H0 := Lib.hid h
  clear he1 he2 he3 hr1 hr2 hr3 ht1 ht2 ht3 hp1 hp2 hp3 h
  go_enter Try.func11, Try.ntmps11
  go_upto_region 5 with (fail)
  obtain ⟨w0, hw0⟩ : ∃ w0, (w.alloc (.cells #[.bool al, .bool aa, .slice E m1 ce, .slice R m2 cr, .slice T m3 ct, .slice A l.length cp, .bool cm, .bool da] 25)).alloc (.cells #[.bool false, .bool false, .slice none 0 0, .slice none 0 0, .slice none 0 0, .slice none 0 0, .bool false, .bool false] 25) = w0 := ⟨_, rfl⟩
  rw [hw0]
  have hz0 : w0.heap.size = w.heap.size + 1 + 1 := by rw [← hw0]; simp
  have hb0 : Below w.heap.size w w0 := hw0 ▸ below_two w _ _
  have hh1 : Hb w0 w.heap.size #[.bool al, .bool aa, .slice E m1 ce, .slice R m2 cr, .slice T m3 ct, .slice A l.length cp, .bool cm, .bool da] := hw0 ▸ (Hb.new w _).on (below_new12 _ _)
  have hh2 : Hb w0 (w.heap.size + 1) #[.bool false, .bool false, .slice none 0 0, .slice none 0 0, .slice none 0 0, .slice none 0 0, .bool false, .bool false] := by
    have := Hb.new (w.alloc (.cells #[.bool al, .bool aa, .slice E m1 ce, .slice R m2 cr, .slice T m3 ct, .slice A l.length cp, .bool cm, .bool da] 25)) #[.bool false, .bool false, .slice none 0 0, .slice none 0 0, .slice none 0 0, .slice none 0 0, .bool false, .bool false]
    rw [World.size_alloc] at this
    exact hw0 ▸ this
  have h := H0.out
  have ho0 := Po.made w0
  rw [hz0] at ho0
  obtain ⟨A', cp', e, hp1, hp2, hp3⟩ := h.p
  injection e with e1 e2 e3
  subst e1 e3
  have hlast : Cp w w.heap.size (boundC ⟨al, aa, els, reps, ats, per, cm, da⟩) (.slice E m1 ce) (.slice R m2 cr) (.slice T m3 ct) (.slice none 0 0) [] → True := fun _ => trivial
  have hse := sv_takeC (m := m1) h.e 70 (show min els.length 70 = m1 by rw [hn1]; exact hm1)
  have hsr := sv_takeC (m := m2) h.r 70 (show min reps.length 70 = m2 by rw [hn2]; exact hm2)
  have hst := sv_takeC (m := m3) h.a 70 (show min ats.length 70 = m3 by rw [hn3]; exact hm3)
  have hper : (per.take 12).map (fun p => (⟨p.el, p.at_.take 70⟩ : Pe)) = (pes (l.take 12)).map fun p => ⟨p.el, p.at_.take 70⟩ := by rw [← pes_take]; have := h.m; simp only at this; rw [this]
  have HP := Lib.hid hp3; have HH1 := Lib.hid hh1; have HH2 := Lib.hid hh2; have HB0 := Lib.hid hb0
  have HSE := Lib.hid hse; have HSR := Lib.hid hsr; have HST := Lib.hid hst; have HPER := Lib.hid hper
  clear hw0 hb0 hh1 hh2 h hp3 hlast hse hsr hst hper H0 q1 q2 q3
  go_wp2
  go_loopw [3, 4] (fun v i wr => ∃ (k : Nat) (acc : List Pw), i = .int .i64 k ∧ k ≤ l.length ∧ k ≤ 12 ∧ acc.length = k ∧ Po (w.heap.size + 1 + 1) wr v acc ∧ pes acc = (pes (l.take k)).map (fun p => ⟨p.el, p.at_.take 70⟩) ∧ (∀ z ∈ acc, Sx wr w.heap.size z) ∧ Below w0.heap.size w0 wr) (fun _ i _ => l.length - (intOf i).toNat)
  case atStart => exact ⟨0, [], rfl, Nat.zero_le _, Nat.zero_le _, rfl, ho0, rfl, (fun z hz => by cases hz), below_new12 w0 _⟩
  case round =>
    clear ho0
    obtain ⟨k, acc, rfl, hks, hk12, hal, hown, hpes, hsa, hbel⟩ := hrel
    have hhb1 := HH1.out.below hbel (by omega)
    have g5 := hhb1.cell 5 _ rfl
    have hbw : Below w.heap.size w wr := HB0.out.trans (hbel.mono (by omega))
    have hsz := hbel.size
    by_cases hk : k < l.length
    · by_cases hk2 : k < 12
      · obtain ⟨b, off, x, rfl, hb, hx, hcs, hsx, hxm⟩ := (HP.out.below hbw).at_ k hk
        obtain ⟨k0, k1⟩ := range2p hcs
        obtain ⟨m, hm⟩ : ∃ n, min x.pe.at_.length 70 = n := ⟨_, rfl⟩
        have hmin := fun ts t w => min_named x.pe.at_.length 70 m hm 70 rfl ts t w
        have hif : (if (70 : Int) < (x.pe.at_.length : Int) then (70 : Int) else (x.pe.at_.length : Int)) = (m : Int) := by split <;> omega
        have hmc : m ≤ x.c := by obtain ⟨A', c', e, hc, _, _⟩ := hsx; injection e with e1 e2 e3; omega
        have hlz : (x.pe.at_.take 70).length = m := by rw [List.length_take, Nat.min_comm]; exact hm
        obtain ⟨z, hz⟩ : ∃ z : Pw, z = ⟨⟨x.pe.el, x.pe.at_.take 70⟩, x.A, x.c⟩ := ⟨_, rfl⟩
        have hzv : perO z = .cells #[.string x.pe.el, .slice x.A m x.c] 39 := by rw [hz, ← hlz]
        have hsz1 : Sx wr w.heap.size z := by
          rw [hz]
          unfold Sx
          simp only
          rw [hlz]
          exact sv_takeC hsx 70 hm
        have hap : Ap wr (w.heap.size + 1 + 1) z := ap_cut hsx (by omega) z (by rw [hz]) (by rw [hz]; simp only; rw [hlz]; omega)
        have hpz := cut_snoc hx hpes z (by rw [hz])
        have HO := Lib.hid hown; have HZ1 := Lib.hid (hsz1.more (show w.heap.size ≤ wr.heap.size by omega)); have HAP := Lib.hid hap; have HPZ := Lib.hid hpz; have HZV := Lib.hid hzv; have HBL := Lib.hid hbel; have HAL := Lib.hid hal; have HM := Lib.hid hm; have HSA := Lib.hid hsa; have HZ0 := Lib.hid hsz1
        have hacc : acc.length ≤ 2000000 := by omega
        have hk0 : (0 : Int) ≤ (k : Int) := by omega
        have hk1 : (k : Int) < (l.length : Int) := by omega
        have hk2' : (k : Int) < 12 := by omega
        clear hcs hsx hx hxm hpes hsa hown hbel hbw hsz1 hap hpz hz hzv hhb1 hal hm hlz
        have HBK := Lib.hid (fun wx (hb : Below (w.heap.size + 1 + 1) wr wx) => (show wx.cell? ⟨w.heap.size, 5, none⟩ = some (.slice (some ⟨b, off, none⟩) l.length cp) ∧ wx.cell? ⟨b, off + k * 2, none⟩ = some (.string x.pe.el) ∧ wx.cell? ⟨b, off + k * 2 + 1, none⟩ = some (.slice x.A x.pe.at_.length x.c) from ⟨(hb.cell (p := ⟨w.heap.size, 5, none⟩) (show w.heap.size < w.heap.size + 1 + 1 by omega)).trans g5, (hb.cell (p := ⟨b, off + k * 2, none⟩) (show b < w.heap.size + 1 + 1 by omega)).trans k0, (hb.cell (p := ⟨b, off + k * 2 + 1, none⟩) (show b < w.heap.size + 1 + 1 by omega)).trans k1⟩))
        go_wp2_with fail
        refine wp_region_noPanic ?_
        refine Ph.T_begin (fun wx => wx.cell? ⟨w.heap.size, 5, none⟩ = some (.slice (some ⟨b, off, none⟩) l.length cp) ∧ wx.cell? ⟨b, off + k * 2, none⟩ = some (.string x.pe.el) ∧ wx.cell? ⟨b, off + k * 2 + 1, none⟩ = some (.slice x.A x.pe.at_.length x.c)) 25 (by kernel_rfl) ?_ (fun hHeld => ?_)
        · exact HBK.out _ (bel_eq12 (Below.refl _ wr) rfl rfl rfl rfl)
        refine Ph.T_pure (i := 0) (oi := _) (v := ?_) rfl (by kernel_rfl) (by kernel_rfl) (by kernel_rfl) (by kernel_rfl) (fun _ _ _ h => h) (Or.inl ⟨by rfl, ?_⟩) (by assumption) (fun hHeld => ?_)
        rotate_left
        · intro w hSw; (try dsimp only at hSw); go_simp; all_goals with_reducible rfl
        try simp only [Act.put, List.getElem_toArray, List.getElem_cons_zero, List.getElem_cons_succ, List.setIfInBounds_toArray, List.set_cons_zero, List.set_cons_succ]
        refine Ph.T_pure (i := 1) (oi := _) (v := ?_) rfl (by kernel_rfl) (by kernel_rfl) (by kernel_rfl) (by kernel_rfl) (fun _ _ _ h => h) (Or.inl ⟨by rfl, ?_⟩) (by assumption) (fun hHeld => ?_)
        rotate_left
        · intro w hSw; (try dsimp only at hSw); go_simp; all_goals with_reducible rfl
        try simp only [Act.put, List.getElem_toArray, List.getElem_cons_zero, List.getElem_cons_succ, List.setIfInBounds_toArray, List.set_cons_zero, List.set_cons_succ]
        refine Ph.T_take (i := 2) (oi := _) (v := ?_) rfl (by kernel_rfl) (by kernel_rfl) (by kernel_rfl) (by kernel_rfl) (fun _ _ _ h => h) (Or.inl ⟨by rfl, ?_⟩) (by assumption) (fun hHeld => ?_)
        rotate_left
        · intro w hSw; (try dsimp only at hSw); go_simp; all_goals with_reducible rfl
        try simp only [Act.put, List.getElem_toArray, List.getElem_cons_zero, List.getElem_cons_succ, List.setIfInBounds_toArray, List.set_cons_zero, List.set_cons_succ]
        refine Ph.T_pure (i := 3) (oi := _) (v := ?_) rfl (by kernel_rfl) (by kernel_rfl) (by kernel_rfl) (by kernel_rfl) (fun _ _ _ h => h) (Or.inl ⟨by rfl, ?_⟩) (by assumption) (fun hHeld => ?_)
        rotate_left
        · intro w hSw; (try dsimp only at hSw); go_simp; all_goals with_reducible rfl
        try simp only [Act.put, List.getElem_toArray, List.getElem_cons_zero, List.getElem_cons_succ, List.setIfInBounds_toArray, List.set_cons_zero, List.set_cons_succ]
        refine Ph.T_pure (i := 4) (oi := _) (v := ?_) rfl (by kernel_rfl) (by kernel_rfl) (by kernel_rfl) (by kernel_rfl) (fun _ _ _ h => h) (Or.inl ⟨by rfl, ?_⟩) (by assumption) (fun hHeld => ?_)
        rotate_left
        · intro w hSw; (try dsimp only at hSw); go_simp; all_goals with_reducible rfl
        try simp only [Act.put, List.getElem_toArray, List.getElem_cons_zero, List.getElem_cons_succ, List.setIfInBounds_toArray, List.set_cons_zero, List.set_cons_succ]
        refine Ph.T_pure (i := 5) (oi := _) (v := ?_) rfl (by kernel_rfl) (by kernel_rfl) (by kernel_rfl) (by kernel_rfl) (fun _ _ _ h => h) (Or.inl ⟨by rfl, ?_⟩) (by assumption) (fun hHeld => ?_)
        rotate_left
        · intro w hSw; (try dsimp only at hSw); go_simp; all_goals with_reducible rfl
        try simp only [Act.put, List.getElem_toArray, List.getElem_cons_zero, List.getElem_cons_succ, List.setIfInBounds_toArray, List.set_cons_zero, List.set_cons_succ]
        refine Ph.T_take (i := 6) (oi := _) (v := ?_) rfl (by kernel_rfl) (by kernel_rfl) (by kernel_rfl) (by kernel_rfl) (fun _ _ _ h => h) (Or.inl ⟨by rfl, ?_⟩) (by assumption) (fun hHeld => ?_)
        rotate_left
        · intro w hSw; (try dsimp only at hSw); go_simp; all_goals with_reducible rfl
        try simp only [Act.put, List.getElem_toArray, List.getElem_cons_zero, List.getElem_cons_succ, List.setIfInBounds_toArray, List.set_cons_zero, List.set_cons_succ]
        refine Ph.T_pure (i := 7) (oi := _) (v := ?_) rfl (by kernel_rfl) (by kernel_rfl) (by kernel_rfl) (by kernel_rfl) (fun _ _ _ h => h) (Or.inl ⟨by rfl, ?_⟩) (by assumption) (fun hHeld => ?_)
        rotate_left
        · intro w hSw; (try dsimp only at hSw); go_simp; all_goals with_reducible rfl
        try simp only [Act.put, List.getElem_toArray, List.getElem_cons_zero, List.getElem_cons_succ, List.setIfInBounds_toArray, List.set_cons_zero, List.set_cons_succ]
        refine Ph.T_take (i := 8) (oi := _) (v := ?_) rfl (by kernel_rfl) (by kernel_rfl) (by kernel_rfl) (by kernel_rfl) (fun _ _ _ h => h) (Or.inl ⟨by rfl, ?_⟩) (by assumption) (fun hHeld => ?_)
        rotate_left
        · intro w hSw; (try dsimp only at hSw); go_simp; all_goals with_reducible rfl
        try simp only [Act.put, List.getElem_toArray, List.getElem_cons_zero, List.getElem_cons_succ, List.setIfInBounds_toArray, List.set_cons_zero, List.set_cons_succ]
        refine Ph.T_pure (i := 9) (oi := _) (v := ?_) rfl (by kernel_rfl) (by kernel_rfl) (by kernel_rfl) (by kernel_rfl) (fun _ _ _ h => h) (Or.inl ⟨by rfl, ?_⟩) (by assumption) (fun hHeld => ?_)
        rotate_left
        · intro w hSw; (try dsimp only at hSw); go_simp; all_goals with_reducible rfl
        try simp only [Act.put, List.getElem_toArray, List.getElem_cons_zero, List.getElem_cons_succ, List.setIfInBounds_toArray, List.set_cons_zero, List.set_cons_succ]
        refine Ph.T_pure (i := 10) (oi := _) (v := ?_) rfl (by kernel_rfl) (by kernel_rfl) (by kernel_rfl) (by kernel_rfl) (fun _ _ _ h => h) (Or.inl ⟨by rfl, ?_⟩) (by assumption) (fun hHeld => ?_)
        rotate_left
        · intro w hSw; (try dsimp only at hSw); go_simp; all_goals with_reducible rfl
        try simp only [Act.put, List.getElem_toArray, List.getElem_cons_zero, List.getElem_cons_succ, List.setIfInBounds_toArray, List.set_cons_zero, List.set_cons_succ]
        refine Ph.T_pure (i := 11) (oi := _) (v := ?_) rfl (by kernel_rfl) (by kernel_rfl) (by kernel_rfl) (by kernel_rfl) (fun _ _ _ h => h) (Or.inl ⟨by rfl, ?_⟩) (by assumption) (fun hHeld => ?_)
        rotate_left
        · intro w hSw; (try dsimp only at hSw); go_simp; all_goals with_reducible rfl
        try simp only [Act.put, List.getElem_toArray, List.getElem_cons_zero, List.getElem_cons_succ, List.setIfInBounds_toArray, List.set_cons_zero, List.set_cons_succ]
        refine Ph.T_take (i := 12) (oi := _) (v := ?_) rfl (by kernel_rfl) (by kernel_rfl) (by kernel_rfl) (by kernel_rfl) (fun _ _ _ h => h) (Or.inl ⟨by rfl, ?_⟩) (by assumption) (fun hHeld => ?_)
        rotate_left
        · intro w hSw; (try dsimp only at hSw); go_simp; all_goals with_reducible rfl
        try simp only [Act.put, List.getElem_toArray, List.getElem_cons_zero, List.getElem_cons_succ, List.setIfInBounds_toArray, List.set_cons_zero, List.set_cons_succ]
        refine Ph.T_pure (i := 13) (oi := _) (v := ?_) rfl (by kernel_rfl) (by kernel_rfl) (by kernel_rfl) (by kernel_rfl) (fun _ _ _ h => h) (Or.inl ⟨by rfl, ?_⟩) (by assumption) (fun hHeld => ?_)
        rotate_left
        · intro w hSw; (try dsimp only at hSw); go_simp; all_goals with_reducible rfl
        try simp only [Act.put, List.getElem_toArray, List.getElem_cons_zero, List.getElem_cons_succ, List.setIfInBounds_toArray, List.set_cons_zero, List.set_cons_succ]
        refine Ph.T_take (i := 14) (oi := _) (v := ?_) rfl (by kernel_rfl) (by kernel_rfl) (by kernel_rfl) (by kernel_rfl) (fun _ _ _ h => h) (Or.inl ⟨by rfl, ?_⟩) (by assumption) (fun hHeld => ?_)
        rotate_left
        · intro w hSw; (try dsimp only at hSw); go_simp; all_goals with_reducible rfl
        try simp only [Act.put, List.getElem_toArray, List.getElem_cons_zero, List.getElem_cons_succ, List.setIfInBounds_toArray, List.set_cons_zero, List.set_cons_succ]
        refine Ph.T_pure (i := 15) (oi := _) (v := ?_) rfl (by kernel_rfl) (by kernel_rfl) (by kernel_rfl) (by kernel_rfl) (fun _ _ _ h => h) (Or.inl ⟨by rfl, ?_⟩) (by assumption) (fun hHeld => ?_)
        rotate_left
        · intro w hSw; (try dsimp only at hSw); go_simp; all_goals with_reducible rfl
        try simp only [Act.put, List.getElem_toArray, List.getElem_cons_zero, List.getElem_cons_succ, List.setIfInBounds_toArray, List.set_cons_zero, List.set_cons_succ]
        refine Ph.T_pure (i := 16) (oi := _) (v := ?_) rfl (by kernel_rfl) (by kernel_rfl) (by kernel_rfl) (by kernel_rfl) (fun _ _ _ h => h) (Or.inl ⟨by rfl, ?_⟩) (by assumption) (fun hHeld => ?_)
        rotate_left
        · intro w hSw; (try dsimp only at hSw); go_simp; all_goals with_reducible rfl
        try simp only [Act.put, List.getElem_toArray, List.getElem_cons_zero, List.getElem_cons_succ, List.setIfInBounds_toArray, List.set_cons_zero, List.set_cons_succ]
        refine Ph.T_pure (i := 17) (oi := _) (v := ?_) rfl (by kernel_rfl) (by kernel_rfl) (by kernel_rfl) (by kernel_rfl) (fun _ _ _ h => h) (Or.inl ⟨by rfl, ?_⟩) (by assumption) (fun hHeld => ?_)
        rotate_left
        · intro w hSw; (try dsimp only at hSw); go_simp; all_goals with_reducible rfl
        try simp only [Act.put, List.getElem_toArray, List.getElem_cons_zero, List.getElem_cons_succ, List.setIfInBounds_toArray, List.set_cons_zero, List.set_cons_succ]
        refine Ph.T_take (i := 18) (oi := _) (v := ?_) rfl (by kernel_rfl) (by kernel_rfl) (by kernel_rfl) (by kernel_rfl) (fun _ _ _ h => h) (Or.inl ⟨by rfl, ?_⟩) (by assumption) (fun hHeld => ?_)
        rotate_left
        · intro w hSw; (try dsimp only at hSw); go_simp; all_goals with_reducible rfl
        try simp only [Act.put, List.getElem_toArray, List.getElem_cons_zero, List.getElem_cons_succ, List.setIfInBounds_toArray, List.set_cons_zero, List.set_cons_succ]
        refine Ph.T_pure (i := 19) (oi := _) (v := ?_) rfl (by kernel_rfl) (by kernel_rfl) (by kernel_rfl) (by kernel_rfl) (fun _ _ _ h => h) (Or.inl ⟨by rfl, ?_⟩) (by assumption) (fun hHeld => ?_)
        rotate_left
        · intro w hSw; (try dsimp only at hSw); go_simp; all_goals with_reducible rfl
        try simp only [Act.put, List.getElem_toArray, List.getElem_cons_zero, List.getElem_cons_succ, List.setIfInBounds_toArray, List.set_cons_zero, List.set_cons_succ]
        refine Ph.T_one (i := 20) (o := _) (by kernel_rfl) rfl (fun K hK => ?_)
        refine step_min _ (by rfl) (.tmp 60) (by rfl) _ m HM.out (by simp [Act.eval, Act.put]) ?_
        refine hK.out _ _ ?_ (fun hHeld => ?_)
        · exact HBK.out _ (bel_eq12 (Below.refl _ wr) rfl rfl rfl rfl)
        clear hK K
        try simp only [Act.put, List.getElem_toArray, List.getElem_cons_zero, List.getElem_cons_succ, List.setIfInBounds_toArray, List.set_cons_zero, List.set_cons_succ]
        refine Ph.T_pure (i := 21) (oi := _) (v := ?_) rfl (by kernel_rfl) (by kernel_rfl) (by kernel_rfl) (by kernel_rfl) (fun _ _ _ h => h) (Or.inl ⟨by rfl, ?_⟩) (by assumption) (fun hHeld => ?_)
        rotate_left
        · intro w hSw; (try dsimp only at hSw); go_simp; all_goals with_reducible rfl
        try simp only [Act.put, List.getElem_toArray, List.getElem_cons_zero, List.getElem_cons_succ, List.setIfInBounds_toArray, List.set_cons_zero, List.set_cons_succ]
        refine Ph.T_pure (i := 22) (oi := _) (v := ?_) rfl (by kernel_rfl) (by kernel_rfl) (by kernel_rfl) (by kernel_rfl) (fun _ _ _ h => h) (Or.inl ⟨by rfl, ?_⟩) (by assumption) (fun hHeld => ?_)
        rotate_left
        · intro w hSw; (try dsimp only at hSw); go_simp; all_goals with_reducible rfl
        try simp only [Act.put, List.getElem_toArray, List.getElem_cons_zero, List.getElem_cons_succ, List.setIfInBounds_toArray, List.set_cons_zero, List.set_cons_succ]
        refine Ph.T_one (i := 23) (o := _) (by kernel_rfl) rfl (fun K hK => ?_)
        go_simp
        go_wp2_with fail
        refine hK.out _ _ ?_ (fun hHeld => ?_)
        · exact HBK.out _ (bel_eq12 ((Below.refl (w.heap.size + 1 + 1) wr).alloc (by omega) _) rfl rfl rfl rfl)
        clear hK K
        try simp only [Act.put, List.getElem_toArray, List.getElem_cons_zero, List.getElem_cons_succ, List.setIfInBounds_toArray, List.set_cons_zero, List.set_cons_succ]
        refine Ph.T_one (i := 24) (o := _) (by kernel_rfl) rfl (fun K hK => ?_)
        refine step_app_per _ (by rfl) (.tmp 41) (.tmp 64) (by rfl) wr (w.heap.size + 1 + 1) _ acc z HO.out HZ1.out HAP.out ((grown_drew wr 1 _).trans (World.grownBy_alloc _ _ _)) (by omega) hacc (by simp [Act.eval, Act.put]) wr.heap.size (by simp [Act.eval, Act.put]) (by rw [HZV.out]; exact heap_alloc_new _ _) ?_
        intro v9 w9 ho9 hg9
        have HO9 := Lib.hid ho9
        have hb9 : Below (w.heap.size + 1 + 1) wr w9 := (Below.refl _ wr).grown hg9 (by omega) (fun q hq => (World.ownsRow.lt HO.out.1 q hq).1)
        have HB9 := Lib.hid hb9
        clear hb9 hg9 ho9
        refine hK.out _ _ ?_ (fun hHeld => ?_)
        · exact HBK.out _ HB9.out
        clear hK K
        try simp only [Act.put, List.getElem_toArray, List.getElem_cons_zero, List.getElem_cons_succ, List.setIfInBounds_toArray, List.set_cons_zero, List.set_cons_succ]
        refine Ph.T_free (i := 25) (oi := _) (v := ?_) (by kernel_rfl) (by kernel_rfl) rfl (Or.inl ⟨by rfl, ?_⟩) ?_
        rotate_left
        · intro w; go_simp; all_goals with_reducible rfl
        try simp only [Act.put, List.getElem_toArray, List.getElem_cons_zero, List.getElem_cons_succ, List.setIfInBounds_toArray, List.set_cons_zero, List.set_cons_succ]
        refine Ph.T_done (by kernel_rfl) ?_ _
        refine NoPanic.normal ?_
        go_wp2
        go_roundw
        case rel => exact ⟨k + 1, acc ++ [z], by go_num, by omega, by omega, by rw [List.length_append, HAL.out]; rfl, HO9.out, HPZ.out, sx_snoc HSA.out HZ0.out (HB9.out.mono (by omega)), HBL.out.trans (HB9.out.mono (by omega))⟩
        case measure => simp [intOf]; omega
      · have hfin : pes acc = (per.take 12).map (fun p => (⟨p.el, p.at_.take 70⟩ : Pe)) := by
          obtain rfl : k = 12 := by omega
          rw [HPER.out, hpes]
        have HFIN := Lib.hid hfin; have HOW := Lib.hid hown; have HSA := Lib.hid hsa; have HBL := Lib.hid hbel
        obtain ⟨B, nB, cB, rfl⟩ := po_shape hown
        have hx5 := HH1.out.below hbel (by omega); have hz5 := HH2.out.below hbel (by omega)
        have HX5 := Lib.hid hx5; have HZ5 := Lib.hid hz5; have HBW := Lib.hid hbw
        have hxf := hx5.f 5
        clear hfin hown hsa hbel hpes hx5 hz5 hbw hhb1
        go_upto_region 10 with (fail)
        obtain ⟨W9, hW9⟩ : ∃ W9, wr.setCell ⟨w.heap.size, 5, none⟩ (.slice B nB cB) = W9 := ⟨_, rfl⟩
        have hg9 : wr.grownBy W9 (some w.heap.size) := hW9 ▸ gcell12 wr _ 5 _
        have hx9 : Hb W9 w.heap.size #[.bool al, .bool aa, .slice E m1 ce, .slice R m2 cr, .slice T m3 ct, .slice B nB cB, .bool cm, .bool da] := hW9 ▸ HX5.out.set 5 (.slice B nB cB)
        have hz9 : Hb W9 (w.heap.size + 1) #[.bool false, .bool false, .slice none 0 0, .slice none 0 0, .slice none 0 0, .slice none 0 0, .bool false, .bool false] := HZ5.out.keep (hg9.block _ HZ5.out.lt (by simp))
        rw [hW9]
        have HRG9 := Lib.hid hx9.range; have HTH := Lib.hid (hz9.there 8 rfl)
        clear hW9
        go_wp2_with (first
          | (show wpList _ _ _ (⟨_, Op.load 25 (.tmp 1), _, _, _, _⟩ :: _) _ _; refine wpList_load_mid rfl 25 (.tmp 1) rfl w.heap.size 0 rfl _ _ HRG9.out Try.underlying25 rfl size_conf ?_)
          | (show wpList _ _ _ (⟨none, Op.store 25 (.tmp 2) (.tmp 68), _, _, _, _⟩ :: _) _ _; refine wpList_store_mid rfl 25 (.tmp 2) (.tmp 68) rfl (w.heap.size + 1) 0 #[.bool al, .bool aa, .slice E m1 ce, .slice R m2 cr, .slice T m3 ct, .slice B nB cB, .bool cm, .bool da] rfl rfl HTH.out size_conf (by simp [Value.oneCell']) ?_))
        obtain ⟨W, hW, hgW, hbW⟩ := res_box (c := ⟨al, aa, els, reps, ats, per, cm, da⟩) (vE := .slice E m1 ce) (vR := .slice R m2 cr) (vA := .slice T m3 ct) (vP := .slice B nB cB) hz9 rfl
        obtain ⟨z0, z1, z2, z3, z4, z5, z6, z7⟩ := hbW.at_
        rw [← hW]
        have hsz9 := hg9.size
        have hwW : Below w.heap.size wr W := (((Below.refl w.heap.size wr).grown hg9 (by omega) (fun q hq => by injection hq with hq; omega)).grown hgW (by omega) (fun q hq => by injection hq with hq; omega))
        have hbelW : Below w.heap.size w W := HBW.out.trans (hwW.mono (by omega))
        have hpW : Pv W W.heap.size (.slice B nB cB) acc := po_kept HOW.out (fun z hz => ((HSA.out z hz).below hwW).more hbelW.size) (fun b hb hb2 => (hgW.block b (by omega) (by simp; omega)).trans (hg9.block b hb2 (by simp; omega))) hwW.size
        have hcW : Cp W W.heap.size (boundC ⟨al, aa, els, reps, ats, per, cm, da⟩) (.slice E m1 ce) (.slice R m2 cr) (.slice T m3 ct) (.slice B nB cB) acc := ⟨(Sv.below HSE.out hbelW (Nat.le_refl _)).more hbelW.size, (Sv.below HSR.out hbelW (Nat.le_refl _)).more hbelW.size, (Sv.below HST.out hbelW (Nat.le_refl _)).more hbelW.size, hpW, HFIN.out⟩
        clear hx9 hz9 HRG9 HTH hgW hW hg9 HX5 HZ5 HOW HSA HFIN hwW hpW
        go_wp2
        exact bodyPost_ret (v := .agg #[.bool al, .bool aa, .slice E m1 ce, .slice R m2 cr, .slice T m3 ct, .slice B nB cB, .bool cm, .bool da]) (by simp [results, Try.f11, go_sem, z0, z1, z2, z3, z4, z5, z6, z7]) rfl ⟨_, rfl, ⟨_, _, _, _, _, rfl, hcW⟩, hbelW⟩
    · have hfin : pes acc = (per.take 12).map (fun p => (⟨p.el, p.at_.take 70⟩ : Pe)) := by
        rw [HPER.out, hpes, List.take_of_length_le (show l.length ≤ k by omega), List.take_of_length_le (show l.length ≤ 12 by omega)]
      have HFIN := Lib.hid hfin; have HOW := Lib.hid hown; have HSA := Lib.hid hsa; have HBL := Lib.hid hbel
      obtain ⟨B, nB, cB, rfl⟩ := po_shape hown
      have hx5 := HH1.out.below hbel (by omega); have hz5 := HH2.out.below hbel (by omega)
      have HX5 := Lib.hid hx5; have HZ5 := Lib.hid hz5; have HBW := Lib.hid hbw
      have hxf := hx5.f 5
      clear hfin hown hsa hbel hpes hx5 hz5 hbw hhb1
      go_upto_region 10 with (fail)
      obtain ⟨W9, hW9⟩ : ∃ W9, wr.setCell ⟨w.heap.size, 5, none⟩ (.slice B nB cB) = W9 := ⟨_, rfl⟩
      have hg9 : wr.grownBy W9 (some w.heap.size) := hW9 ▸ gcell12 wr _ 5 _
      have hx9 : Hb W9 w.heap.size #[.bool al, .bool aa, .slice E m1 ce, .slice R m2 cr, .slice T m3 ct, .slice B nB cB, .bool cm, .bool da] := hW9 ▸ HX5.out.set 5 (.slice B nB cB)
      have hz9 : Hb W9 (w.heap.size + 1) #[.bool false, .bool false, .slice none 0 0, .slice none 0 0, .slice none 0 0, .slice none 0 0, .bool false, .bool false] := HZ5.out.keep (hg9.block _ HZ5.out.lt (by simp))
      rw [hW9]
      have HRG9 := Lib.hid hx9.range; have HTH := Lib.hid (hz9.there 8 rfl)
      clear hW9
      go_wp2_with (first
        | (show wpList _ _ _ (⟨_, Op.load 25 (.tmp 1), _, _, _, _⟩ :: _) _ _; refine wpList_load_mid rfl 25 (.tmp 1) rfl w.heap.size 0 rfl _ _ HRG9.out Try.underlying25 rfl size_conf ?_)
        | (show wpList _ _ _ (⟨none, Op.store 25 (.tmp 2) (.tmp 68), _, _, _, _⟩ :: _) _ _; refine wpList_store_mid rfl 25 (.tmp 2) (.tmp 68) rfl (w.heap.size + 1) 0 #[.bool al, .bool aa, .slice E m1 ce, .slice R m2 cr, .slice T m3 ct, .slice B nB cB, .bool cm, .bool da] rfl rfl HTH.out size_conf (by simp [Value.oneCell']) ?_))
      obtain ⟨W, hW, hgW, hbW⟩ := res_box (c := ⟨al, aa, els, reps, ats, per, cm, da⟩) (vE := .slice E m1 ce) (vR := .slice R m2 cr) (vA := .slice T m3 ct) (vP := .slice B nB cB) hz9 rfl
      obtain ⟨z0, z1, z2, z3, z4, z5, z6, z7⟩ := hbW.at_
      rw [← hW]
      have hsz9 := hg9.size
      have hwW : Below w.heap.size wr W := (((Below.refl w.heap.size wr).grown hg9 (by omega) (fun q hq => by injection hq with hq; omega)).grown hgW (by omega) (fun q hq => by injection hq with hq; omega))
      have hbelW : Below w.heap.size w W := HBW.out.trans (hwW.mono (by omega))
      have hpW : Pv W W.heap.size (.slice B nB cB) acc := po_kept HOW.out (fun z hz => ((HSA.out z hz).below hwW).more hbelW.size) (fun b hb hb2 => (hgW.block b (by omega) (by simp; omega)).trans (hg9.block b hb2 (by simp; omega))) hwW.size
      have hcW : Cp W W.heap.size (boundC ⟨al, aa, els, reps, ats, per, cm, da⟩) (.slice E m1 ce) (.slice R m2 cr) (.slice T m3 ct) (.slice B nB cB) acc := ⟨(Sv.below HSE.out hbelW (Nat.le_refl _)).more hbelW.size, (Sv.below HSR.out hbelW (Nat.le_refl _)).more hbelW.size, (Sv.below HST.out hbelW (Nat.le_refl _)).more hbelW.size, hpW, HFIN.out⟩
      clear hx9 hz9 HRG9 HTH hgW hW hg9 HX5 HZ5 HOW HSA HFIN hwW hpW
      go_wp2
      exact bodyPost_ret (v := .agg #[.bool al, .bool aa, .slice E m1 ce, .slice R m2 cr, .slice T m3 ct, .slice B nB cB, .bool cm, .bool da]) (by simp [results, Try.f11, go_sem, z0, z1, z2, z3, z4, z5, z6, z7]) rfl ⟨_, rfl, ⟨_, _, _, _, _, rfl, hcW⟩, hbelW⟩

end Go.Proofs.Ythiimnlilfcfeaa.Co

namespace Go.Proofs.Ythiimnlilfcfeaa.Co
set_option linter.unusedSimpArgs false
set_option linter.unusedVariables false
open Ba Fm Fo Nm Rk
abbrev plainEls : List ByteArray := [⟨#[97]⟩, ⟨#[97, 98, 98, 114]⟩, ⟨#[97, 114, 116, 105, 99, 108, 101]⟩, ⟨#[98]⟩, ⟨#[98, 108, 111, 99, 107, 113, 117, 111, 116, 101]⟩, ⟨#[98, 114]⟩, ⟨#[99, 111, 100, 101]⟩, ⟨#[100, 100]⟩, ⟨#[100, 105, 118]⟩, ⟨#[100, 108]⟩, ⟨#[100, 116]⟩, ⟨#[101, 109]⟩, ⟨#[104, 49]⟩, ⟨#[104, 50]⟩, ⟨#[104, 51]⟩, ⟨#[104, 52]⟩, ⟨#[104, 53]⟩, ⟨#[104, 54]⟩, ⟨#[104, 114]⟩, ⟨#[105]⟩, ⟨#[105, 109, 103]⟩, ⟨#[108, 105]⟩, ⟨#[111, 108]⟩, ⟨#[112]⟩, ⟨#[112, 114, 101]⟩, ⟨#[115, 101, 99, 116, 105, 111, 110]⟩, ⟨#[115, 112, 97, 110]⟩, ⟨#[115, 116, 114, 111, 110, 103]⟩, ⟨#[116, 97, 98, 108, 101]⟩, ⟨#[116, 98, 111, 100, 121]⟩, ⟨#[116, 100]⟩, ⟨#[116, 104]⟩, ⟨#[116, 104, 101, 97, 100]⟩, ⟨#[116, 114]⟩, ⟨#[117]⟩, ⟨#[117, 108]⟩]
abbrev plainAts : List ByteArray := [⟨#[97, 108, 116]⟩, ⟨#[99, 108, 97, 115, 115]⟩, ⟨#[100, 105, 114]⟩, ⟨#[104, 101, 105, 103, 104, 116]⟩, ⟨#[105, 100]⟩, ⟨#[108, 97, 110, 103]⟩, ⟨#[116, 105, 116, 108, 101]⟩, ⟨#[119, 105, 100, 116, 104]⟩]
def plainC : Cf := ⟨true, true, plainEls, [], plainAts, [⟨⟨#[97]⟩, [⟨#[104, 114, 101, 102]⟩]⟩, ⟨⟨#[105, 109, 103]⟩, [⟨#[115, 114, 99]⟩]⟩, ⟨⟨#[116, 100]⟩, [⟨#[99, 111, 108, 115, 112, 97, 110]⟩, ⟨#[114, 111, 119, 115, 112, 97, 110]⟩]⟩], false, false⟩
def allC : Cf := ⟨false, false, [], [], [], [], true, false⟩

theorem plain_check : checkN plainC = 0 := by decide +kernel
theorem plain_b : elementN plainC ⟨#[98]⟩ = 0 := by decide +kernel
theorem plain_script : elementN plainC ⟨#[115, 99, 114, 105, 112, 116]⟩ = 1 := by decide +kernel
theorem plain_a_href : attrB12 plainC ⟨#[97]⟩ ⟨#[104, 114, 101, 102]⟩ = true := by decide +kernel
theorem plain_b_href : attrB12 plainC ⟨#[98]⟩ ⟨#[104, 114, 101, 102]⟩ = false := by decide +kernel
theorem all_script : elementN allC ⟨#[115, 99, 114, 105, 112, 116]⟩ = 0 := by decide +kernel
theorem all_onclick : attrB12 allC ⟨#[98]⟩ ⟨#[111, 110, 99, 108, 105, 99, 107]⟩ = true := by decide +kernel
theorem sall_script : elementN (stripC allC) ⟨#[115, 99, 114, 105, 112, 116]⟩ = 1 := by decide +kernel
theorem sall_b : elementN (stripC allC) ⟨#[98]⟩ = 0 := by decide +kernel
theorem c120 : checkN ⟨false, false, [], [], [], [], false, true⟩ = 120 := by decide +kernel
theorem c121 : checkN ⟨false, false, [⟨#[65]⟩], [], [], [], false, false⟩ = 121 := by decide +kernel
theorem c122 : checkN ⟨false, false, [], [], [⟨#[97]⟩, ⟨#[97]⟩], [], false, false⟩ = 122 := by decide +kernel
end Go.Proofs.Ythiimnlilfcfeaa.Co

namespace Go.Proofs.Ythiimnlilfcfeaa.Fo
set_option maxRecDepth 100000
set_option linter.unusedSimpArgs false
set_option linter.unusedVariables false
open Go.RowKit Ba Fm
theorem bdx {acc x y : List ByteArray} {a b : List ByteArray} (h : acc ++ mrg lt x y = mrg lt a b) (ha : a.length ≤ 1000000) (hb : b.length ≤ 1000000) (hx : x.length ≤ 1000000) (hy : y.length ≤ 1000000) : (acc.length + x.length) * 16 ≤ 140737488355328 ∧ ((acc ++ x).length + y.length) * 16 ≤ 140737488355328 := by
  have h1 := congrArg List.length h
  have h2 := len_mrg lt a b
  rw [List.length_append] at h1
  rw [List.length_append]
  omega
theorem bdm {acc r : List ByteArray} {x : ByteArray} {a b : List ByteArray} (h : acc ++ x :: r = mrg lt a b) (ha : a.length ≤ 1000000) (hb : b.length ≤ 1000000) : (acc.length + 1) * 16 ≤ 140737488355328 := by
  have h1 := congrArg List.length h
  have h2 := len_mrg lt a b
  rw [List.length_append, List.length_cons] at h1
  omega
set_option maxRecDepth 100000 in
set_option maxHeartbeats 2000000 in
theorem merged_any (va vb : Value) (a b : List ByteArray) (w : World) (hva : Sv w w.heap.size va a) (hvb : Sv w w.heap.size vb b) (hla : a.length ≤ 1000000) (hlb : b.length ≤ 1000000) :
    Calls Try.prog 52 #[va, vb] w fun e w' => ∃ v, e = .returned v ∧ Sown w.heap.size w' v (mrg lt a b) ∧ Below w.heap.size w w' := by
  obtain ⟨i0, hi, hz0, hz1, hz2⟩ := info_parts info_str
  obtain ⟨A, ca, rfl, hca, hna, hra⟩ := hva
  obtain ⟨C, cb, rfl, hcb, hnb, hrb⟩ := hvb
  go_enter Try.func52, Try.ntmps52
  go_wp2_with (at_make; refine wpList_make_own _ rfl (.const (.int .i64 0)) (.tmp 10) 22 rfl w.heap.size 9 i0 (.string .empty) 1 Try.underlying22 hi hz0 hz1 .i64 .i64 _ (a.length + b.length) rfl rfl (by simp) (by rw [hz2]; omega) (by unfold maxLen; omega) (Nat.le_refl _) ?_; intro w1 hown hgrow)
  have hb0 : Below w.heap.size w w1 := (Below.refl w.heap.size w).grown hgrow (Nat.le_refl _) (by simp)
  have ho0 : Sown w.heap.size w1 (.slice (some ⟨w.heap.size, 0, none⟩) 0 (a.length + b.length)) [] := hown
  clear hown hgrow
  go_loopw [0, 1, 5] (fun xa xb v wr => ∃ (x y acc : List ByteArray), Sv w w.heap.size xa x ∧ Sv w w.heap.size xb y ∧ x.length ≤ 1000000 ∧ y.length ≤ 1000000 ∧ Sown w.heap.size wr v acc ∧ acc ++ mrg lt x y = mrg lt a b ∧ Below w.heap.size w wr) (fun xa xb _ _ => lenOf xa + lenOf xb)
  case atStart => exact ⟨a, b, [], ⟨A, ca, rfl, hca, hna, hra⟩, ⟨C, cb, rfl, hcb, hnb, hrb⟩, hla, hlb, ho0, rfl, hb0⟩
  case round =>
    clear ho0 hb0 hra hrb hca hcb hna hnb
    obtain ⟨x, y, acc, ⟨D, cd, rfl, hcd, hnd, hrd⟩, ⟨E, ce, rfl, hce, hne, hre⟩, hlx, hly, hown, hc, hbel⟩ := hrel
    have hN := hbel.size
    cases x with
    | nil =>
      obtain ⟨k1, k2⟩ := bdx hc hla hlb hlx hly
      rw [mrg_nil] at hc
      have HC := Lib.hid hc; clear hc
      simp only [List.length_nil] at hcd hlx k1 ⊢
      go_wp2_with (first | (at_builtin; refine app_all wr rfl (.tmp 54) (.tmp 55) rfl w.heap.size _ acc [] D cd w.heap.size rfl hown rfl hnd (Rd.nil _ _ _) k1 hN ?_; intro v3 w3 hown3 hk3 _) | (at_builtin; refine app_all w3 rfl (.tmp 57) (.tmp 58) rfl w.heap.size _ (acc ++ []) y E ce w.heap.size rfl hown3 rfl hne (hre.below (hk3 _ hbel) (Nat.le_refl _)) k2 (hk3 _ hbel).size ?_; intro v4 w4 hown4 hk4 _))
      go_ret
      exact ⟨v4, rfl, by rw [← HC.out, ← List.append_nil acc]; exact hown4, hk4 _ (hk3 _ hbel)⟩
    | cons p x =>
    cases y with
    | nil =>
      obtain ⟨k1, k2⟩ := bdx hc hla hlb hlx hly
      rw [mrg_nil'] at hc
      have HC := Lib.hid hc; clear hc
      simp only [List.length_nil, List.length_cons] at hcd hce hlx hly k1 k2 ⊢
      have hlen : (p :: x).length = x.length + 1 := rfl
      go_wp2_with (first | (at_builtin; refine app_all wr rfl (.tmp 54) (.tmp 55) rfl w.heap.size _ acc (p :: x) D cd w.heap.size rfl hown rfl hnd (hrd.below hbel (Nat.le_refl _)) k1 hN ?_; intro v3 w3 hown3 hk3 _) | (at_builtin; refine app_all w3 rfl (.tmp 57) (.tmp 58) rfl w.heap.size _ (acc ++ p :: x) [] E ce w.heap.size rfl hown3 rfl hne (Rd.nil _ _ _) k2 (hk3 _ hbel).size ?_; intro v4 w4 hown4 hk4 _))
      go_ret
      exact ⟨v4, rfl, by rw [← HC.out, ← List.append_nil (acc ++ p :: x)]; exact hown4, hk4 _ (hk3 _ hbel)⟩
    | cons q y =>
      have hrd0 := hrd
      have hre0 := hre
      obtain ⟨b1, o1, rfl, hb1, hc1⟩ := hrd (by simp)
      obtain ⟨b2, o2, rfl, hb2, hc2⟩ := hre (by simp)
      have g1 : wr.cell? ⟨b1, o1, none⟩ = some (.string p) := (hbel.cell (p := ⟨b1, o1, none⟩) hb1).trans (hc1 0 (by simp))
      have g2 : wr.cell? ⟨b2, o2, none⟩ = some (.string q) := (hbel.cell (p := ⟨b2, o2, none⟩) hb2).trans (hc2 0 (by simp))
      have hxt := sv_tail hrd0 hcd
      have hyt := sv_tail hre0 hce
      have hxs : Sv w w.heap.size (.slice (some ⟨b1, o1, none⟩) (x.length + 1) cd) (p :: x) := ⟨_, cd, rfl, hcd, hnd, hrd0⟩
      have hys : Sv w w.heap.size (.slice (some ⟨b2, o2, none⟩) (y.length + 1) ce) (q :: y) := ⟨_, ce, rfl, hce, hne, hre0⟩
      simp only [List.length_cons] at hcd hce hlx hly ⊢
      have HX := Lib.hid hxt; have HY := Lib.hid hyt; have HXS := Lib.hid hxs; have HYS := Lib.hid hys
      clear hxt hyt hxs hys hc1 hc2 hrd hre hrd0 hre0 hnd hne
      cases h1 : lt p q with
      | true =>
        rw [mrg_lt _ _ h1] at hc
        have hbd := bdm hc hla hlb
        have HC := Lib.hid hc; clear hc
        have h1' : Op.bytesLess p.toList q.toList = true := h1
        clear h1
        go_wp2
        go_quiet (fail)
        have hbel3 := below_dN hbel nq
        go_wp2_with (at_builtin; refine app_one (wr.drewN nq) rfl (.tmp 30) (.tmp 34) rfl w.heap.size _ acc p rfl (sown_dN hown nq) rfl hbd hbel3.size ?_; intro v3 w3 hown3 hk3 _)
        go_roundw
        case rel => exact ⟨x, q :: y, acc ++ [p], HX.out, HYS.out, by omega, by simp; omega, hown3, by rw [List.append_assoc]; exact HC.out, hk3 _ hbel3⟩
        case measure => simp [lenOf]
      | false =>
        have h1' : Op.bytesLess p.toList q.toList = false := h1
        cases h2 : lt q p with
        | true =>
          rw [mrg_gt _ _ h1 h2] at hc
          have hbd := bdm hc hla hlb
          have HC := Lib.hid hc; clear hc
          have h2' : Op.bytesLess q.toList p.toList = true := h2
          clear h1 h2
          go_wp2
          go_quiet (fail)
          obtain ⟨w6, hw6⟩ : ∃ w6, wr.drewN nq = w6 := ⟨_, rfl⟩
          have hbel3 : Below w.heap.size w w6 := hw6 ▸ below_dN hbel nq
          have hown6 : Sown w.heap.size w6 _ acc := hw6 ▸ sown_dN hown nq
          have g1' : w6.cell? ⟨b1, o1, none⟩ = some (.string p) := hw6 ▸ g1
          have g2' : w6.cell? ⟨b2, o2, none⟩ = some (.string q) := hw6 ▸ g2
          rw [hw6]
          clear hw6
          go_wp2
          go_quiet (fail)
          have hbel4 := below_dN hbel3 nq
          go_wp2_with (at_builtin; refine app_one (w6.drewN nq) rfl (.tmp 46) (.tmp 50) rfl w.heap.size _ acc q rfl (sown_dN hown6 nq) rfl hbd hbel4.size ?_; intro v3 w3 hown3 hk3 _)
          go_roundw
          case rel => exact ⟨p :: x, y, acc ++ [q], HXS.out, HY.out, by simp; omega, by omega, hown3, by rw [List.append_assoc]; exact HC.out, hk3 _ hbel4⟩
          case measure => simp [lenOf]
        | false =>
          rw [mrg_eq _ _ h1 h2] at hc
          have HC := Lib.hid hc; clear hc
          have h2' : Op.bytesLess q.toList p.toList = false := h2
          clear h1 h2
          go_wp2
          go_quiet (fail)
          obtain ⟨w6, hw6⟩ : ∃ w6, wr.drewN nq = w6 := ⟨_, rfl⟩
          have hbel3 : Below w.heap.size w w6 := hw6 ▸ below_dN hbel nq
          have hown6 : Sown w.heap.size w6 _ acc := hw6 ▸ sown_dN hown nq
          have g1' : w6.cell? ⟨b1, o1, none⟩ = some (.string p) := hw6 ▸ g1
          have g2' : w6.cell? ⟨b2, o2, none⟩ = some (.string q) := hw6 ▸ g2
          rw [hw6]
          clear hw6
          go_wp2
          go_quiet (fail)
          have hbel4 := below_dN hbel3 nq
          go_wp2
          go_roundw
          case rel => exact ⟨x, q :: y, acc, HX.out, HYS.out, by omega, by simp; omega, sown_dN hown6 nq, HC.out, hbel4⟩
          case measure => simp [lenOf]

end Go.Proofs.Ythiimnlilfcfeaa.Fo

namespace Go.Proofs.Ythiimnlilfcfeaa.Fo
set_option maxRecDepth 100000
set_option linter.unusedSimpArgs false
set_option linter.unusedVariables false
open Go.RowKit Ba Fm
set_option maxHeartbeats 400000 in
theorem less_any (p q b off n c m : Nat) (x s : ByteArray) (w : World) (hm : m < n) (hn : n ≤ 8796093022208)
    (h1 : w.cell? ⟨p, 0, none⟩ = some (.slice (some ⟨b, off, none⟩) n c)) (h2 : w.cell? ⟨q, 0, none⟩ = some (.string s)) (h3 : w.cell? ⟨b, off + m, none⟩ = some (.string x)) :
    Calls Try.prog 66 #[.int .i64 m, .pointer (some ⟨p, 0, none⟩), .pointer (some ⟨q, 0, none⟩)] w fun e w' => e = .returned (.bool (lt x s)) ∧ Below w.heap.size w w' := by
  have hk0 : (0 : Int) ≤ (m : Int) := by omega
  have hk1 : (m : Int) < (n : Int) := by omega
  go_enter Try.func66, Try.ntmps66
  go_wp2
  go_quiet (fail)
  go_wp2
  go_ret
  exact ⟨rfl, below_dN (Below.refl _ _) _⟩
/-- What the search knows: all ahead of 'lo' are less, none from 'hi' on is. -/
def Kn (l : List ByteArray) (s : ByteArray) (lo hi : Nat) : Prop :=
  (∀ i, (h : i < l.length) → i < lo → lt l[i] s = true) ∧ (∀ i, (h : i < l.length) → hi ≤ i → lt l[i] s = false)
theorem Kn.end_ {l : List ByteArray} {s : ByteArray} {k : Nat} (h : Kn l s k k) (hk : k ≤ l.length) : below lt l s = k :=
  below_of hk (fun i hi => h.1 i (by omega) hi) fun i hki hi => h.2 i hi hki
theorem Kn.found {l : List ByteArray} {s : ByteArray} {k : Nat} (h : Kn l s k k) (ha : Asc lt l) (hk : k < l.length) : decide (l[k] = s) = isIn s l := by
  have := found_of ord_lt (fun i hi hik => h.1 i hi hik) ha hk (h.2 k hk (Nat.le_refl _))
  by_cases e : l[k] = s
  · rw [decide_eq_true e, isIn_yes (this.1 e)]
  · rw [decide_eq_false e, isIn_no fun q => e (this.2 q)]
theorem Kn.none_ {l : List ByteArray} {s : ByteArray} {k : Nat} (h : Kn l s k k) (hk : ¬ k < l.length) : isIn s l = false :=
  isIn_no (notfound_of ord_lt fun i hi => h.1 i hi (by omega))
set_option maxHeartbeats 1000000 in
theorem find_any (A : Option Addr) (c : Nat) (l : List ByteArray) (s : ByteArray) (w : World) (hr : Rd w w.heap.size A l) (hl : l.length ≤ 8796093022208) (ha : Asc lt l) :
    Calls Try.prog 53 #[.slice A l.length c, .string s] w fun e w' => e = .returned (.tuple #[.int .i64 (below lt l s), .bool (isIn s l)]) ∧ Below w.heap.size w w' := by
  have hmf : ∀ (fn : Fn) (first cap : Array Value) (w : World), (Instr.makeFunc fn first cap).run Try.prog w = .ok (.func fn first cap) w := fun _ _ _ _ => rfl
  obtain ⟨w0, hw0⟩ : ∃ w0, (w.alloc (.cells #[.slice A l.length c] 22)).alloc (.cells #[.string s] 9) = w0 := ⟨_, rfl⟩
  have hz : w0.heap.size = w.heap.size + 2 := by rw [← hw0]; simp
  have hb0 : Below w.heap.size w w0 := by rw [← hw0]; exact ((Below.refl _ _).alloc (Nat.le_refl _) _).alloc (by simp) _
  have hc1 : w0.cell? ⟨w.heap.size, 0, none⟩ = some (.slice A l.length c) := by
    rw [← hw0, World.cell?_alloc_past _ _ _ (by simp), World.cell?_alloc_at _ _ _ _ rfl]; rfl
  have hc2 : w0.cell? ⟨w.heap.size + 1, 0, none⟩ = some (.string s) := by
    rw [← hw0, World.cell?_alloc_at _ _ _ _ (by simp)]; rfl
  have HW := Lib.hid hw0; clear hw0
  have HZ := Lib.hid hz; clear hz
  go_enter Try.func53, Try.ntmps53
  go_wp2
  rw [HW.out]
  go_quiet (fail)
  go_wp2
  clear hmf
  generalize hw1 : w0.drewN nq = w1
  have hb1 : Below w0.heap.size w0 w1 := by rw [← hw1]; exact below_dN (Below.refl _ _) _
  clear hw1
  go_loopw [7, 8, 9] (fun lo hi _ wr => ∃ i j : Nat, lo = .int .i64 i ∧ hi = .int .i64 j ∧ i ≤ j ∧ j ≤ l.length ∧ Kn l s i j ∧ Below w0.heap.size w0 wr) (fun lo hi _ _ => (intOf hi).toNat - (intOf lo).toNat)
  case atStart => exact ⟨0, l.length, rfl, rfl, Nat.zero_le _, Nat.le_refl _, ⟨fun i _ h => absurd h (by omega), fun i h h' => absurd h (by omega)⟩, hb1⟩
  case round =>
    obtain ⟨i, j, rfl, rfl, hij, hjl, hkn, hbel⟩ := hrel
    have HK := Lib.hid hkn; clear hkn
    have g1 : wr.cell? ⟨w.heap.size, 0, none⟩ = some (.slice A l.length c) := (hbel.cell (p := ⟨w.heap.size, 0, none⟩) (by have := HZ.out; simp; omega)).trans hc1
    have g2 : wr.cell? ⟨w.heap.size + 1, 0, none⟩ = some (.string s) := (hbel.cell (p := ⟨w.heap.size + 1, 0, none⟩) (by have := HZ.out; simp; omega)).trans hc2
    clear hc1 hc2 hb1
    by_cases hlt : i < j
    · obtain ⟨b, off, rfl, hb2, hc⟩ := hr (by omega)
      have hmid : i + (j - i) / 2 < l.length := by omega
      have g3 : wr.cell? ⟨b, off + (i + (j - i) / 2), none⟩ = some (.string l[i + (j - i) / 2]) := (hbel.cell (p := ⟨b, off + (i + (j - i) / 2), none⟩) (by have := HZ.out; simp; omega)).trans ((hb0.cell (p := ⟨b, off + (i + (j - i) / 2), none⟩) hb2).trans (hc _ hmid))
      have hup : lt l[i + (j - i) / 2] s = true → Kn l s (i + (j - i) / 2 + 1) j := fun h => ⟨fun x hx hxl => low_of ord_lt ha hmid h (by omega), HK.out.2⟩
      have hdn : lt l[i + (j - i) / 2] s = false → Kn l s i (i + (j - i) / 2) := fun h => ⟨HK.out.1, fun x hx hxl => high_of ord_lt ha hmid h hxl hx⟩
      have HU := Lib.hid hup; have HD := Lib.hid hdn; clear hup hdn hc hr hb2
      obtain ⟨m, hm⟩ : ∃ m, i + (j - i) / 2 = m := ⟨_, rfl⟩
      have HM := Lib.hid hm
      have hmi : (i : Int) + ((j : Int) - i) / 2 = (m : Int) := by omega
      have hmj : i ≤ m ∧ m < j := by omega
      obtain ⟨hmi1, hmj1⟩ := hmj
      clear hm
      simp only [HM.out] at hmid g3 HU HD
      have HMI := Lib.hid hmi; clear hmi
      cases hq : lt l[m] s with
      | true =>
        have HQ := Lib.hid hq; clear hq
        go_wp2_with fail
        rw [HMI.out]
        refine (less_any w.heap.size (w.heap.size + 1) b off l.length c m l[m] s _ hmid hl g1 g2 g3).mono ?_
        rw [HQ.out]
        rintro e w2 ⟨rfl, hb3⟩
        go_wp2
        go_roundw
        case rel => exact ⟨m + 1, j, by go_num, rfl, by omega, hjl, HU.out HQ.out, hbel.trans (hb3.mono hbel.size)⟩
        case measure => simp [intOf]; omega
      | false =>
        have HQ := Lib.hid hq; clear hq
        go_wp2_with fail
        rw [HMI.out]
        refine (less_any w.heap.size (w.heap.size + 1) b off l.length c m l[m] s _ hmid hl g1 g2 g3).mono ?_
        rw [HQ.out]
        rintro e w2 ⟨rfl, hb3⟩
        go_wp2
        go_roundw
        case rel => exact ⟨i, m, rfl, by go_num, by omega, by omega, HD.out HQ.out, hbel.trans (hb3.mono hbel.size)⟩
        case measure => simp [intOf]; omega
    · obtain rfl : i = j := by omega
      have hfin : below lt l s = i := HK.out.end_ hjl
      have HF := Lib.hid hfin; clear hfin hij hlt
      by_cases hp : i < l.length
      · obtain ⟨b, off, rfl, hb2, hc⟩ := hr (by omega)
        have g3 : wr.cell? ⟨b, off + i, none⟩ = some (.string l[i]) := (hbel.cell (p := ⟨b, off + i, none⟩) (by have := HZ.out; simp; omega)).trans ((hb0.cell (p := ⟨b, off + i, none⟩) hb2).trans (hc _ hp))
        have hfd := HK.out.found ha hp
        have HFD := Lib.hid hfd; clear hfd hc hr
        have hk0 : (0 : Int) ≤ (i : Int) := by omega
        have hk1 : (i : Int) < (l.length : Int) := by omega
        have hk2 : decide (i < l.length) = true := decide_eq_true hp
        go_wp2
        go_quiet (fail)
        go_wp2
        go_ret2
        refine ⟨?_, hb0.trans ((below_dN hbel _).mono hb0.size)⟩
        rw [HF.out, ← HFD.out, eq_of_toList]
        rfl
      · have hfd := HK.out.none_ hp
        have HFD := Lib.hid hfd; clear hfd
        have hk1 : decide (i < l.length) = false := decide_eq_false hp
        go_wp2
        go_quiet (fail)
        go_wp2
        go_ret2
        refine ⟨?_, hb0.trans ((below_dN hbel _).mono hb0.size)⟩
        rw [HF.out, HFD.out]
        rfl

end Go.Proofs.Ythiimnlilfcfeaa.Fo

namespace Go.Proofs.Ythiimnlilfcfeaa.Fo
set_option maxRecDepth 100000
set_option linter.unusedSimpArgs false
set_option linter.unusedVariables false
open Go.RowKit Ba Fm
set_option maxHeartbeats 1000000 in
theorem sorted_small (v : Value) (l : List ByteArray) (w : World) (hv : Sv w w.heap.size v l) (hl : l.length < 2) :
    Calls Try.prog 34 #[v] w fun e w' => ∃ v', e = .returned v' ∧ Sown w.heap.size w' v' (srt lt l) ∧ Below w.heap.size w w' := by
  obtain ⟨A, c, rfl, hc, hn, hr⟩ := hv
  have hs := srt_small ord_lt hl
  have HS := Lib.hid hs; clear hs
  go_enter Try.func34, Try.ntmps34
  go_wp2_with (at_builtin; refine app_all w rfl (.const (.slice none 0 0)) (.tmp 7) rfl w.heap.size (.slice none 0 0) [] l A c w.heap.size rfl (Sown.nil _ _) rfl hn hr (by simp; omega) (Nat.le_refl _) ?_; intro v3 w3 hown3 hk3 _)
  go_ret
  exact ⟨v3, rfl, by rw [← HS.out]; exact hown3, hk3 _ (Below.refl _ _)⟩
theorem sv_take {w : World} {N c m : Nat} {A : Option Addr} {l : List ByteArray} (hr : Rd w N A l) (hc : l.length ≤ c) (hn : A = none → c = 0) (hm : m ≤ l.length) : Sv w N (.slice A m c) (l.take m) :=
  ⟨A, c, by rw [List.length_take, Nat.min_eq_left hm], by rw [List.length_take]; omega, hn, hr.take m⟩
theorem sv_drop {w : World} {N c m b o : Nat} {l : List ByteArray} (hr : Rd w N (some ⟨b, o, none⟩) l) (hc : l.length ≤ c) (hm : m ≤ l.length) : Sv w N (.slice (if c = m then some ⟨b, o, none⟩ else some ⟨b, o + m, none⟩) (l.length - m) (c - m)) (l.drop m) := by
  refine ⟨_, c - m, by rw [List.length_drop], by rw [List.length_drop]; omega, fun e => ?_, ?_⟩
  · split at e <;> cases e
  · have := hr.drop m c hc
    simp only [Option.map_some, WideShapes.add_plain] at this
    exact this
set_option maxHeartbeats 2000000 in
theorem sorted_big (n : Nat) (ih : ∀ (l : List ByteArray), l.length < n → ∀ (v : Value) (w : World), Sv w w.heap.size v l → l.length ≤ 1000000 → Calls Try.prog 34 #[v] w fun e w' => ∃ v', e = .returned v' ∧ Sown w.heap.size w' v' (srt lt l) ∧ Below w.heap.size w w')
    (l : List ByteArray) (hn : l.length = n) (hb : 2 ≤ n) (v : Value) (w : World) (hv : Sv w w.heap.size v l) (hl : l.length ≤ 1000000) :
    Calls Try.prog 34 #[v] w fun e w' => ∃ v', e = .returned v' ∧ Sown w.heap.size w' v' (srt lt l) ∧ Below w.heap.size w w' := by
  subst hn
  obtain ⟨A, c, rfl, hc, hna, hr⟩ := hv
  obtain ⟨m, hm⟩ : ∃ m, l.length / 2 = m := ⟨_, rfl⟩
  have hmi : (l.length : Int) / 2 = (m : Int) := by omega
  have hm1 : 1 ≤ m ∧ m < l.length := by omega
  obtain ⟨hm1, hm2⟩ := hm1
  have hh := srt_halves ord_lt l m
  have hr0 := hr
  obtain ⟨b, o, rfl, hbb, _⟩ := hr0 (by omega)
  have h1 := sv_take hr hc hna (Nat.le_of_lt hm2)
  have h2 := sv_drop hr hc (Nat.le_of_lt hm2)
  rw [if_neg (by omega)] at h2
  have i1 := ih (l.take m) (by rw [List.length_take]; omega)
  have i2 := ih (l.drop m) (by rw [List.length_drop]; omega)
  have l1 : (l.take m).length ≤ 1000000 := by rw [List.length_take]; omega
  have l2 : (l.drop m).length ≤ 1000000 := by rw [List.length_drop]; omega
  have l1' := Nat.le_trans (len_srt lt (l.take m)) l1
  have l2' := Nat.le_trans (len_srt lt (l.drop m)) l2
  have HMI := Lib.hid hmi; have HH := Lib.hid hh; have H1 := Lib.hid h1; have H2 := Lib.hid h2; have I1 := Lib.hid i1; have I2 := Lib.hid i2
  clear hmi hh h1 h2 i1 i2 ih hm hr hna
  go_enter Try.func34, Try.ntmps34
  go_wp2
  simp only [HMI.out]
  go_region_with (first
    | (go_at_call_of 34 (Value.slice (some (⟨b, o, none⟩ : Addr)) m c); refine (I1.out _ _ ?_ l1).mono ?_; exact H1.out; rintro e w1 ⟨v1, rfl, ho1, hb1⟩)
    | (go_at_call 34; refine (I2.out _ w1 ?_ l2).mono ?_; exact (H2.out.below (w := w.drew) hb1 (Nat.le_refl _)).more hb1.size; rintro e w2 ⟨v2, rfl, ho2, hb2⟩)
    | (go_at_call 52; refine (merged_any _ _ _ _ w2 ?_ ?_ l1' l2').mono ?_; exact sv_own (ho1.below hb2 (Nat.le_refl _)); exact sv_own ho2; rintro e w3 ⟨v3, rfl, ho3, hb3⟩))
  all_goals (try go_wp2)
  all_goals go_ret
  all_goals exact ⟨v3, rfl, by rw [← HH.out]; exact ho3.mono (Nat.le_trans (by exact hb1.size) hb2.size), (Below.refl w.heap.size w).drew.trans (hb1.trans ((hb2.mono hb1.size).trans (hb3.mono (Nat.le_trans hb1.size hb2.size))))⟩
theorem sorted_all : ∀ (n : Nat) (l : List ByteArray), l.length < n → ∀ (v : Value) (w : World), Sv w w.heap.size v l → l.length ≤ 1000000 → Calls Try.prog 34 #[v] w fun e w' => ∃ v', e = .returned v' ∧ Sown w.heap.size w' v' (srt lt l) ∧ Below w.heap.size w w'
  | 0, l, h, _, _, _, _ => absurd h (by omega)
  | n + 1, l, h, v, w, hv, hl => by
    by_cases h2 : l.length < 2
    · exact sorted_small v l w hv h2
    · exact sorted_big l.length (fun m hm v w hv hl => sorted_all n m (by omega) v w hv hl) l rfl (by omega) v w hv hl
theorem sorted_any (v : Value) (l : List ByteArray) (w : World) (hv : Sv w w.heap.size v l) (hl : l.length ≤ 1000000) :
    Calls Try.prog 34 #[v] w fun e w' => ∃ v', e = .returned v' ∧ Sown w.heap.size w' v' (srt lt l) ∧ Below w.heap.size w w' :=
  sorted_all (l.length + 1) l (Nat.lt_succ_self _) v w hv hl
set_option maxHeartbeats 2000000 in
theorem minus_any (va vb : Value) (l m : List ByteArray) (w : World) (hva : Sv w w.heap.size va l) (hvb : Sv w w.heap.size vb m) (hl : l.length ≤ 1000000) (hm : m.length ≤ 1000000) :
    Calls Try.prog 38 #[va, vb] w fun e w' => ∃ v, e = .returned v ∧ Sown w.heap.size w' v (mns l m) ∧ Below w.heap.size w w' := by
  obtain ⟨A, ca, rfl, hca, hna, hra⟩ := hva
  have hls := len_srt lt m
  have hsr := (srt_is ord_lt m).1
  have hin : ∀ x, isIn x (srt lt m) = isIn x m := fun x => isIn_congr ((srt_is ord_lt m).2 x)
  have HS := Lib.hid hsr; have HI := Lib.hid hin; clear hsr hin
  go_enter Try.func38, Try.ntmps38
  go_wp2_with fail
  refine (sorted_any vb m _ hvb hm).mono ?_
  rintro e w1 ⟨v1, rfl, ho1, hb1⟩
  have hs1 := sv_own ho1
  obtain ⟨D, cd, rfl, hcd, hnd, hrd⟩ := hs1
  go_wp2_with fail
  go_loopw [5, 8, 9, 10, 15] (fun v _ _ _ i wr => ∃ k : Nat, i = .int .i64 k ∧ k ≤ l.length ∧ Sown w1.heap.size wr v (mns (l.take k) m) ∧ Below w1.heap.size w1 wr) (fun _ _ _ _ i _ => l.length - (intOf i).toNat)
  case atStart => exact ⟨0, rfl, Nat.zero_le _, Sown.nil _ _, Below.refl _ _⟩
  case round =>
    obtain ⟨k, rfl, hks, hown, hbel⟩ := hrel
    have hN := hbel.size
    by_cases hp : k < l.length
    · obtain ⟨b, off, rfl, hbb, hc⟩ := hra (by omega)
      have hcell : wr.cell? ⟨b, off + k, none⟩ = some (.string l[k]) := (hbel.cell (p := ⟨b, off + k, none⟩) (by have := hb1.size; simp; omega)).trans ((hb1.cell (p := ⟨b, off + k, none⟩) hbb).trans (hc k hp))
      have hbd : ((mns (l.take k) m).length + 1) * 16 ≤ 140737488355328 := by
        have := len_mns (l.take k) m
        rw [List.length_take] at this
        omega
      have hrd' := (hrd.below hbel (Nat.le_refl _)).more hN
      have hsn := take_snocS l k hp
      have hin := HI.out l[k]
      clear hc hra
      cases hq : isIn l[k] m with
      | true =>
        rw [hq] at hin
        have hmn := mns_yes (l.take k) m _ hq
        rw [← hsn] at hmn
        rw [← hmn] at hown
        have HQ := Lib.hid hin; clear hin hq hsn hmn
        go_wp2_with fail
        refine (find_any D cd (srt lt m) l[k] wr hrd' (by omega) HS.out).mono ?_
        rw [HQ.out]
        rintro e w2 ⟨rfl, hb2⟩
        have hown2 := hown.below hb2 (Nat.le_refl _)
        have hbel2 := hbel.trans (hb2.mono hN)
        go_wp2
        go_roundw
        case rel => exact ⟨k + 1, by go_num, by omega, hown2, hbel2⟩
        case measure => simp [intOf]; omega
      | false =>
        rw [hq] at hin
        have hmn := mns_no (l.take k) m _ hq
        rw [← hsn] at hmn
        have HQ := Lib.hid hin; have HM := Lib.hid hmn; clear hin hq hsn hmn
        go_wp2_with fail
        refine (find_any D cd (srt lt m) l[k] wr hrd' (by omega) HS.out).mono ?_
        rw [HQ.out]
        rintro e w2 ⟨rfl, hb2⟩
        have hown2 := hown.below hb2 (Nat.le_refl _)
        have hbel2 := hbel.trans (hb2.mono hN)
        go_wp2_with (at_builtin; refine app_one w2 rfl (.tmp 27) (.tmp 29) rfl w1.heap.size _ (mns (l.take k) m) l[k] rfl hown2 rfl hbd hbel2.size ?_; intro v3 w3 hown3 hk3 _)
        go_roundw
        case rel => exact ⟨k + 1, by go_num, by omega, by rw [HM.out]; exact hown3, hk3 _ hbel2⟩
        case measure => simp [intOf]; omega
    · go_wp2
      go_ret
      rw [List.take_of_length_le (by omega)] at hown
      exact ⟨_, rfl, hown.mono hb1.size, bt hb1 hbel⟩

end Go.Proofs.Ythiimnlilfcfeaa.Fo

namespace Go.Proofs.Ythiimnlilfcfeaa.Fo
set_option maxRecDepth 100000
set_option linter.unusedSimpArgs false
set_option linter.unusedVariables false
open Go.RowKit Ba Fm
end Go.Proofs.Ythiimnlilfcfeaa.Fo

namespace Go.Proofs.Ythiimnlilfcfeaa.Rk
set_option maxRecDepth 100000
set_option linter.unusedVariables false
set_option linter.unusedSimpArgs false
open Go.RowKit Ba Fm
theorem eqlit (s : ByteArray) (l : List UInt8) : (s.toList == l) = decide (s = ⟨l.toArray⟩) := by
  rw [← ByteArray.toList_mk l, eq_of_toList, ByteArray.toList_mk]
theorem never_or (e : ByteArray) (b0 b1 b2 b3 b4 b5 b6 b7 : Bool) (h0 : (e.toList == [98, 97, 115, 101]) = b0) (h1 : (e.toList == [101, 109, 98, 101, 100]) = b1) (h2 : (e.toList == [102, 114, 97, 109, 101]) = b2) (h3 : (e.toList == [105, 102, 114, 97, 109, 101]) = b3) (h4 : (e.toList == [108, 105, 110, 107]) = b4) (h5 : (e.toList == [109, 101, 116, 97]) = b5) (h6 : (e.toList == [111, 98, 106, 101, 99, 116]) = b6) (h7 : (e.toList == [115, 99, 114, 105, 112, 116]) = b7) : (b0 || b1 || b2 || b3 || b4 || b5 || b6 || b7) = neverB e := by
  rw [eqlit] at h0 h1 h2 h3 h4 h5 h6 h7
  subst h0 h1 h2 h3 h4 h5 h6 h7
  unfold neverB isIn unsafeL
  rw [Bool.eq_iff_iff]
  simp [or_assoc]
set_option maxRecDepth 100000 in
theorem element1 (e : ByteArray) (w : World) (q : Bool) (hq : neverB e = q) :
    Calls Try.prog 54 #[.string e] w fun r w' => r = .returned (.bool q) ∧ w = w' := by
  obtain ⟨b0, h0⟩ : ∃ b, (e.toList == [98, 97, 115, 101]) = b := ⟨_, rfl⟩
  obtain ⟨b1, h1⟩ : ∃ b, (e.toList == [101, 109, 98, 101, 100]) = b := ⟨_, rfl⟩
  obtain ⟨b2, h2⟩ : ∃ b, (e.toList == [102, 114, 97, 109, 101]) = b := ⟨_, rfl⟩
  obtain ⟨b3, h3⟩ : ∃ b, (e.toList == [105, 102, 114, 97, 109, 101]) = b := ⟨_, rfl⟩
  obtain ⟨b4, h4⟩ : ∃ b, (e.toList == [108, 105, 110, 107]) = b := ⟨_, rfl⟩
  obtain ⟨b5, h5⟩ : ∃ b, (e.toList == [109, 101, 116, 97]) = b := ⟨_, rfl⟩
  obtain ⟨b6, h6⟩ : ∃ b, (e.toList == [111, 98, 106, 101, 99, 116]) = b := ⟨_, rfl⟩
  obtain ⟨b7, h7⟩ : ∃ b, (e.toList == [115, 99, 114, 105, 112, 116]) = b := ⟨_, rfl⟩
  have HQ := Lib.hid ((never_or e b0 b1 b2 b3 b4 b5 b6 b7 h0 h1 h2 h3 h4 h5 h6 h7).trans hq)
  clear hq
  go_enter Try.func54, Try.ntmps54
  cases b0 with
  | true =>
    go_wp2
    go_ret
    exact ⟨ret_bool (by rw [← HQ.out]; simp), rfl⟩
  | false =>
  cases b1 with
  | true =>
    go_wp2
    go_ret
    exact ⟨ret_bool (by rw [← HQ.out]; simp), rfl⟩
  | false =>
  cases b2 with
  | true =>
    go_wp2
    go_ret
    exact ⟨ret_bool (by rw [← HQ.out]; simp), rfl⟩
  | false =>
  cases b3 with
  | true =>
    go_wp2
    go_ret
    exact ⟨ret_bool (by rw [← HQ.out]; simp), rfl⟩
  | false =>
  cases b4 with
  | true =>
    go_wp2
    go_ret
    exact ⟨ret_bool (by rw [← HQ.out]; simp), rfl⟩
  | false =>
  cases b5 with
  | true =>
    go_wp2
    go_ret
    exact ⟨ret_bool (by rw [← HQ.out]; simp), rfl⟩
  | false =>
  cases b6 with
  | true =>
    go_wp2
    go_ret
    exact ⟨ret_bool (by rw [← HQ.out]; simp), rfl⟩
  | false =>
  cases b7 with
  | true =>
    go_wp2
    go_ret
    exact ⟨ret_bool (by rw [← HQ.out]; simp), rfl⟩
  | false =>
  go_wp2
  go_ret
  exact ⟨ret_bool (by rw [← HQ.out]; rfl), rfl⟩

end Go.Proofs.Ythiimnlilfcfeaa.Rk

namespace Go.Proofs.Ythiimnlilfcfeaa.Co
set_option maxRecDepth 100000
set_option linter.unusedVariables false
set_option linter.unusedSimpArgs false
open Go.RowKit Ba Fm Fo Nm Rk
theorem copied1 (v : Value) (l : List ByteArray) (w : World) (hv : Sv w w.heap.size v l) (hl : l.length ≤ 1000000) :
    Calls Try.prog 36 #[v] w fun e w' => ∃ v', e = .returned v' ∧ Sown w.heap.size w' v' l ∧ Below w.heap.size w w' := by
  obtain ⟨A, c, rfl, hc, hn, hr⟩ := hv
  go_enter Try.func36, Try.ntmps36
  go_wp2_with (at_builtin; refine app_all w rfl (.const (.slice none 0 0)) (.tmp 3) rfl w.heap.size (.slice none 0 0) [] l A c w.heap.size rfl (Sown.nil _ _) rfl hn hr (by simp; omega) (Nat.le_refl _) ?_; intro v3 w3 hown3 hk3 _)
  go_ret
  exact ⟨v3, rfl, hown3, hk3 _ (Below.refl _ _)⟩
set_option maxHeartbeats 1000000 in
theorem safe12 (v : Value) (l : List ByteArray) (w : World) (hv : Sv w w.heap.size v l) (hl : l.length ≤ 1000000) :
    Calls Try.prog 37 #[v] w fun e w' => ∃ v', e = .returned v' ∧ Sown w.heap.size w' v' (mns l unsafeL) ∧ Below w.heap.size w w' := by
  obtain ⟨A, c, rfl, hc, hn, hr⟩ := hv
  go_enter Try.func37, Try.ntmps37
  go_wp2
  go_loopw [3, 5, 8] (fun v _ i wr => ∃ k : Nat, i = .int .i64 k ∧ k ≤ l.length ∧ Sown w.heap.size wr v (mns (l.take k) unsafeL) ∧ Below w.heap.size w wr) (fun _ _ i _ => l.length - (intOf i).toNat)
  case atStart => exact ⟨0, rfl, Nat.zero_le _, Sown.nil _ _, Below.refl _ _⟩
  case round =>
    obtain ⟨k, rfl, hks, hown, hbel⟩ := hrel
    have hN := hbel.size
    by_cases hp : k < l.length
    · obtain ⟨b, off, rfl, hb1, hc⟩ := hr (by omega)
      have hcell : wr.cell? ⟨b, off + k, none⟩ = some (.string l[k]) := (hbel.cell (p := ⟨b, off + k, none⟩) hb1).trans (hc k hp)
      have hbd : ((mns (l.take k) unsafeL).length + 1) * 16 ≤ 140737488355328 := by
        have := len_mns (l.take k) unsafeL
        rw [List.length_take] at this
        omega
      clear hc hr
      have hsn := take_snocS l k hp
      cases hin : isIn l[k] unsafeL with
      | true =>
        have hmn := mns_yes (l.take k) unsafeL _ hin
        rw [← hsn] at hmn
        rw [← hmn] at hown
        have HI := Lib.hid hin; clear hin hsn hmn
        go_wp2_with (go_at_call 54; refine (Rk.element1 l[k] _ true HI.out).mono ?_; rintro e w' ⟨rfl, rfl⟩)
        go_roundw
        case rel => exact ⟨k + 1, by go_num, by omega, hown, hbel⟩
        case measure => simp [intOf]; omega
      | false =>
        have hmn := mns_no (l.take k) unsafeL _ hin
        rw [← hsn] at hmn
        have HI := Lib.hid hin; have HM := Lib.hid hmn; clear hin hsn hmn
        go_wp2_with (first | (go_at_call 54; refine (Rk.element1 l[k] _ false HI.out).mono ?_; rintro e w' ⟨rfl, rfl⟩) | (at_builtin; refine app_one wr rfl (.tmp 15) (.tmp 17) rfl w.heap.size _ (mns (l.take k) unsafeL) l[k] rfl hown rfl hbd hN ?_; intro v2 w2 hown2 hk2 _))
        go_roundw
        case rel => exact ⟨k + 1, by go_num, by omega, by rw [HM.out]; exact hown2, hk2 _ hbel⟩
        case measure => simp [intOf]; omega
    · go_wp2
      go_ret
      refine ⟨_, rfl, ?_, hbel⟩
      rw [List.take_of_length_le (by omega)] at hown
      exact hown
theorem own_lit12 (w : World) (l : List ByteArray) (hl : l.length ≤ 1000) : Sown w.heap.size (w.alloc (.cells (l.map sc).toArray 9)) (.slice (some ⟨w.heap.size, 0, none⟩) l.length l.length) l :=
  World.ownsRow_lit w (l.map sc).toArray l.length (Nat.le_refl _) (by unfold maxLen; omega) (by simp)
theorem neverSafe1 (w : World) : Calls Try.prog 39 #[] w fun r w' => ∃ v', r = .returned v' ∧ Sown w.heap.size w' v' unsafeL ∧ Below w.heap.size w w' := by
  have hs := own_lit12 w unsafeL (by decide)
  have hb := below_new12 w (.cells (unsafeL.map sc).toArray 9)
  go_enter Try.func39, Try.ntmps39
  go_wp2
  go_ret
  exact ⟨_, rfl, hs, hb⟩
theorem unsafe12 (w : World) : Calls Try.prog 27 #[] w fun r w' => ∃ v', r = .returned v' ∧ Sown w.heap.size w' v' unsafeL ∧ Below w.heap.size w w' := by
  have hs := own_lit12 w unsafeL (by decide)
  have hb := below_new12 w (.cells (unsafeL.map sc).toArray 9)
  go_enter Try.func27, Try.ntmps27
  go_wp2
  go_ret
  exact ⟨_, rfl, hs, hb⟩
end Go.Proofs.Ythiimnlilfcfeaa.Co
