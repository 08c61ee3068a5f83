/-
  Walk of stage 12: the law's Bound.
  Stage 12: what the laws have in common: a configuration bounded, in a box of the law's own.
  Stage 13: what the laws have in common: rows and a configuration bounded.
  Stage 13: CleanTexts.
  Stage 4: what rows hold in text is no more than the reading's bulk.
-/
import Derived.Test.YtdjkeakagmgfgaaCk06
import Derived.Laws.Small
import Derived.Deep.CutRange
import Derived.Test.YtdjkeakagmgfgaaCk02
namespace Go.Proofs.Ytdjkeakagmgfgaa.Co
set_option maxRecDepth 100000
set_option linter.unusedVariables false
set_option linter.unusedSimpArgs false
open Go.RowKit Ba Fm Fo Nm Rk
/-- Lists of at most 70, of at most 12 elements with their own. -/
def boundC (c : Cf) : Cf := ⟨c.allow, c.attrsAllow, c.els.take 70, c.reps.take 70, c.ats.take 70, (c.per.take 12).map fun p => ⟨p.el, p.at_.take 70⟩, c.comments, c.dataAttrs⟩
theorem min_named (x m k : Nat) (hk : min x m = k) (M : Int) (hM : M = m) (ts : Array TypeId) (t : TypeId) (w : World) : (Builtin.min_ ts t #[.int .i64 x, .int .i64 M]).run Try.prog w = .ok (.int .i64 k) w := by
  rw [run_min_int2]
  congr 2
  split <;> omega
theorem sx_snoc {w w' : World} {N : Nat} {acc : List Pw} {z : Pw} (h : ∀ y ∈ acc, Sx w N y) (hz : Sx w N z) (hb : Below N w w') : ∀ y ∈ acc ++ [z], Sx w' N y := fun y hy => by
  rcases List.mem_append.1 hy with h1 | h1
  · exact (h y h1).below hb
  · obtain rfl := List.mem_singleton.1 h1
    exact hz.below hb
theorem po_kept {N : Nat} {w W : World} {v : Value} {l : List Pw} (h : Po N w v l) (hs : ∀ z ∈ l, Sx W W.heap.size z) (hk : ∀ b, N ≤ b → b < w.heap.size → W.heap[b]? = w.heap[b]?) (hz : w.heap.size ≤ W.heap.size) : Pv W W.heap.size v l := by
  obtain ⟨A, c, e, h1, _, h2, h3⟩ := h.form
  refine ⟨A, c, e, h1, h2, fun h0 => ?_, hs⟩
  obtain ⟨b, off, eA, hb, hc⟩ := h3.1 h0
  have hN : N ≤ b := (World.ownsRow.lt h.1 b (by rw [e, eA]; simp [Value.ownBlock])).1
  exact ⟨b, off, eA, by omega, fun j hj => range_keep12 (hc j hj) fun o => World.cell?_of_block (a := ⟨b, o, none⟩) (hk b hN hb)⟩
theorem step_min {ops : Array Oper} {o : Oper} {a : Act} {K : Act → World → Prop} {Q : Exit → Act → World → Prop} {E : Prop} (W : World) (hgd : o.guard = none) (x : Operand)
    (ho : o.op = .call { callee := .builtin .min, args := #[x, .const (.int .i64 70)], argTypes := #[3, 3] }) (n m : Nat) (hm : min n 70 = m) (hx : a.eval x = .int .i64 n) (h : K (a.put o.dst (.int .i64 m)) W) :
    if Region.wanted o (yielded ops a.tmps) = true then Oper.wp Try.prog o a W K Q else E := by
  rw [if_pos (show Region.wanted o (yielded ops a.tmps) = true by simp [Region.wanted, hgd])]
  have hrun := fun ts t => min_named n 70 m hm 70 rfl ts t W
  have hc : a.eval (.const (.int .i64 70)) = .int .i64 70 := rfl
  unfold Oper.wp
  simp [execOp, ho, resolve, invoke, builtin, hx, hc, hrun, Result.andThen]
  exact h
theorem sv_takeC {w : World} {N c m : Nat} {A : Option Addr} {l : List ByteArray} (h : Sv w N (.slice A l.length c) l) (k : Nat) (hm : min l.length k = m) : Sv w N (.slice A m c) (l.take k) := by
  obtain ⟨A', c', e, hc, hn, hr⟩ := h
  injection e with e1 e2 e3
  subst e1 e3
  have e : (l.take k).length = m := by rw [List.length_take, Nat.min_comm]; exact hm
  exact ⟨A, c, by rw [e], by rw [e]; omega, hn, hr.take k⟩
theorem cut_snoc {l : List Pw} {k : Nat} {x : Pw} {acc : List Pw} (h : l[k]? = some x) (ha : pes acc = (pes (l.take k)).map fun p => ⟨p.el, p.at_.take 70⟩) (z : Pw) (hz : z.pe = ⟨x.pe.el, x.pe.at_.take 70⟩) : pes (acc ++ [z]) = (pes (l.take (k + 1))).map fun p => ⟨p.el, p.at_.take 70⟩ := by
  have hk : k < l.length := (List.getElem?_eq_some_iff.1 h).1
  have hx : l[k] = x := (List.getElem?_eq_some_iff.1 h).2
  rw [List.take_succ_eq_append_getElem hk, pes_append, pes_append, hx, List.map_append, ha]
  simp [pes, hz]
theorem ap_cut {w : World} {N M : Nat} {x : Pw} (h : Sx w N x) (hN : N ≤ M) (z : Pw) (hA : z.A = x.A) (hz : z.pe.at_.length ≤ x.pe.at_.length) : Ap w M z := fun h0 => by
  obtain ⟨A, c, e, _, _, hr⟩ := h
  injection e with e1 e2 e3
  obtain ⟨b, off, e', hb, _⟩ := hr (by omega)
  exact ⟨b, off, by rw [hA, e1, e'], .inl (by omega)⟩
set_option maxRecDepth 100000 in
set_option maxHeartbeats 2000000 in
theorem bound12 (v : Value) (c : Cf) (w : World) (h : Cv w w.heap.size v c) :
    Calls Try.prog 11 #[v] w fun r w' => ∃ v', r = .returned v' ∧ Cv w' w'.heap.size v' (boundC c) ∧ Below w.heap.size w w' := by
  obtain ⟨vE, vR, vA, vP, l, rfl, h⟩ := h
  obtain ⟨al, aa, els, reps, ats, per, cm, da⟩ := c
  obtain ⟨E, ce, rfl, he1, he2, he3⟩ := h.e
  obtain ⟨R, cr, rfl, hr1, hr2, hr3⟩ := h.r
  obtain ⟨T, ct, rfl, ht1, ht2, ht3⟩ := h.a
  obtain ⟨A, cp, rfl, hp1, hp2, hp3⟩ := h.p
  obtain ⟨n1, hn1⟩ : ∃ n, els.length = n := ⟨_, rfl⟩
  obtain ⟨n2, hn2⟩ : ∃ n, reps.length = n := ⟨_, rfl⟩
  obtain ⟨n3, hn3⟩ : ∃ n, ats.length = n := ⟨_, rfl⟩
  obtain ⟨m1, hm1⟩ : ∃ n, min n1 70 = n := ⟨_, rfl⟩
  obtain ⟨m2, hm2⟩ : ∃ n, min n2 70 = n := ⟨_, rfl⟩
  obtain ⟨m3, hm3⟩ : ∃ n, min n3 70 = n := ⟨_, rfl⟩
  have q1 := fun ts t w => min_named n1 70 m1 hm1 70 rfl ts t w
  have q2 := fun ts t w => min_named n2 70 m2 hm2 70 rfl ts t w
  have q3 := fun ts t w => min_named n3 70 m3 hm3 70 rfl ts t w
  have u1 : m1 ≤ ce := by simp only at he1; omega
  have u2 : m2 ≤ cr := by simp only at hr1; omega
  have u3 : m3 ≤ ct := by simp only at ht1; omega
  simp only
  rw [hn1, hn2, hn3]
  have H0 := Lib.hid h
  clear he1 he2 he3 hr1 hr2 hr3 ht1 ht2 ht3 hp1 hp2 hp3 h
  go_enter Try.func11, Try.ntmps11
  go_upto_region 5 with (fail)
  obtain ⟨w0, hw0⟩ : ∃ w0, (w.alloc (.cells #[.bool al, .bool aa, .slice E m1 ce, .slice R m2 cr, .slice T m3 ct, .slice A l.length cp, .bool cm, .bool da] 26)).alloc (.cells #[.bool false, .bool false, .slice none 0 0, .slice none 0 0, .slice none 0 0, .slice none 0 0, .bool false, .bool false] 26) = w0 := ⟨_, rfl⟩
  rw [hw0]
  have hz0 : w0.heap.size = w.heap.size + 1 + 1 := by rw [← hw0]; simp
  have hb0 : Below w.heap.size w w0 := hw0 ▸ below_two w _ _
  have hh1 : Hb w0 w.heap.size #[.bool al, .bool aa, .slice E m1 ce, .slice R m2 cr, .slice T m3 ct, .slice A l.length cp, .bool cm, .bool da] := hw0 ▸ (Hb.new w _).on (below_new12 _ _)
  have hh2 : Hb w0 (w.heap.size + 1) #[.bool false, .bool false, .slice none 0 0, .slice none 0 0, .slice none 0 0, .slice none 0 0, .bool false, .bool false] := by
    have := Hb.new (w.alloc (.cells #[.bool al, .bool aa, .slice E m1 ce, .slice R m2 cr, .slice T m3 ct, .slice A l.length cp, .bool cm, .bool da] 26)) #[.bool false, .bool false, .slice none 0 0, .slice none 0 0, .slice none 0 0, .slice none 0 0, .bool false, .bool false]
    rw [World.size_alloc] at this
    exact hw0 ▸ this
  have h := H0.out
  have ho0 := Po.made w0
  rw [hz0] at ho0
  obtain ⟨A', cp', e, hp1, hp2, hp3⟩ := h.p
  injection e with e1 e2 e3
  subst e1 e3
  have hlast : Cp w w.heap.size (boundC ⟨al, aa, els, reps, ats, per, cm, da⟩) (.slice E m1 ce) (.slice R m2 cr) (.slice T m3 ct) (.slice none 0 0) [] → True := fun _ => trivial
  have hse := sv_takeC (m := m1) h.e 70 (show min els.length 70 = m1 by rw [hn1]; exact hm1)
  have hsr := sv_takeC (m := m2) h.r 70 (show min reps.length 70 = m2 by rw [hn2]; exact hm2)
  have hst := sv_takeC (m := m3) h.a 70 (show min ats.length 70 = m3 by rw [hn3]; exact hm3)
  have hper : (per.take 12).map (fun p => (⟨p.el, p.at_.take 70⟩ : Pe)) = (pes (l.take 12)).map fun p => ⟨p.el, p.at_.take 70⟩ := by rw [← pes_take]; have := h.m; simp only at this; rw [this]
  have HP := Lib.hid hp3; have HH1 := Lib.hid hh1; have HH2 := Lib.hid hh2; have HB0 := Lib.hid hb0
  have HSE := Lib.hid hse; have HSR := Lib.hid hsr; have HST := Lib.hid hst; have HPER := Lib.hid hper
  clear hw0 hb0 hh1 hh2 h hp3 hlast hse hsr hst hper H0 q1 q2 q3
  go_wp2
  go_loopw [3, 4] (fun v i wr => ∃ (k : Nat) (acc : List Pw), i = .int .i64 k ∧ k ≤ l.length ∧ k ≤ 12 ∧ acc.length = k ∧ Po (w.heap.size + 1 + 1) wr v acc ∧ pes acc = (pes (l.take k)).map (fun p => ⟨p.el, p.at_.take 70⟩) ∧ (∀ z ∈ acc, Sx wr w.heap.size z) ∧ Below w0.heap.size w0 wr) (fun _ i _ => l.length - (intOf i).toNat)
  case atStart => exact ⟨0, [], rfl, Nat.zero_le _, Nat.zero_le _, rfl, ho0, rfl, (fun z hz => by cases hz), below_new12 w0 _⟩
  case round =>
    clear ho0
    obtain ⟨k, acc, rfl, hks, hk12, hal, hown, hpes, hsa, hbel⟩ := hrel
    have hhb1 := HH1.out.below hbel (by omega)
    have g5 := hhb1.cell 5 _ rfl
    have hbw : Below w.heap.size w wr := HB0.out.trans (hbel.mono (by omega))
    have hsz := hbel.size
    by_cases hk : k < l.length
    · by_cases hk2 : k < 12
      · obtain ⟨b, off, x, rfl, hb, hx, hcs, hsx, hxm⟩ := (HP.out.below hbw).at_ k hk
        obtain ⟨k0, k1⟩ := range2p hcs
        obtain ⟨m, hm⟩ : ∃ n, min x.pe.at_.length 70 = n := ⟨_, rfl⟩
        have hmin := fun ts t w => min_named x.pe.at_.length 70 m hm 70 rfl ts t w
        have hif : (if (70 : Int) < (x.pe.at_.length : Int) then (70 : Int) else (x.pe.at_.length : Int)) = (m : Int) := by split <;> omega
        have hmc : m ≤ x.c := by obtain ⟨A', c', e, hc, _, _⟩ := hsx; injection e with e1 e2 e3; omega
        have hlz : (x.pe.at_.take 70).length = m := by rw [List.length_take, Nat.min_comm]; exact hm
        obtain ⟨z, hz⟩ : ∃ z : Pw, z = ⟨⟨x.pe.el, x.pe.at_.take 70⟩, x.A, x.c⟩ := ⟨_, rfl⟩
        have hzv : perO z = .cells #[.string x.pe.el, .slice x.A m x.c] 52 := by rw [hz, ← hlz]
        have hsz1 : Sx wr w.heap.size z := by
          rw [hz]
          unfold Sx
          simp only
          rw [hlz]
          exact sv_takeC hsx 70 hm
        have hap : Ap wr (w.heap.size + 1 + 1) z := ap_cut hsx (by omega) z (by rw [hz]) (by rw [hz]; simp only; rw [hlz]; omega)
        have hpz := cut_snoc hx hpes z (by rw [hz])
        have HO := Lib.hid hown; have HZ1 := Lib.hid (hsz1.more (show w.heap.size ≤ wr.heap.size by omega)); have HAP := Lib.hid hap; have HPZ := Lib.hid hpz; have HZV := Lib.hid hzv; have HBL := Lib.hid hbel; have HAL := Lib.hid hal; have HM := Lib.hid hm; have HSA := Lib.hid hsa; have HZ0 := Lib.hid hsz1
        have hacc : acc.length ≤ 2000000 := by omega
        have hk0 : (0 : Int) ≤ (k : Int) := by omega
        have hk1 : (k : Int) < (l.length : Int) := by omega
        have hk2' : (k : Int) < 12 := by omega
        clear hcs hsx hx hxm hpes hsa hown hbel hbw hsz1 hap hpz hz hzv hhb1 hal hm hlz
        have HBK := Lib.hid (fun wx (hb : Below (w.heap.size + 1 + 1) wr wx) => (show wx.cell? ⟨w.heap.size, 5, none⟩ = some (.slice (some ⟨b, off, none⟩) l.length cp) ∧ wx.cell? ⟨b, off + k * 2, none⟩ = some (.string x.pe.el) ∧ wx.cell? ⟨b, off + k * 2 + 1, none⟩ = some (.slice x.A x.pe.at_.length x.c) from ⟨(hb.cell (p := ⟨w.heap.size, 5, none⟩) (show w.heap.size < w.heap.size + 1 + 1 by omega)).trans g5, (hb.cell (p := ⟨b, off + k * 2, none⟩) (show b < w.heap.size + 1 + 1 by omega)).trans k0, (hb.cell (p := ⟨b, off + k * 2 + 1, none⟩) (show b < w.heap.size + 1 + 1 by omega)).trans k1⟩))
        go_wp2_with fail
        refine wp_region_noPanic ?_
        refine Ph.T_begin (fun wx => wx.cell? ⟨w.heap.size, 5, none⟩ = some (.slice (some ⟨b, off, none⟩) l.length cp) ∧ wx.cell? ⟨b, off + k * 2, none⟩ = some (.string x.pe.el) ∧ wx.cell? ⟨b, off + k * 2 + 1, none⟩ = some (.slice x.A x.pe.at_.length x.c)) 25 (by kernel_rfl) ?_ (fun hHeld => ?_)
        · exact HBK.out _ (bel_eq12 (Below.refl _ wr) rfl rfl rfl rfl)
        refine Ph.T_pure (i := 0) (oi := _) (v := ?_) rfl (by kernel_rfl) (by kernel_rfl) (by kernel_rfl) (by kernel_rfl) (fun _ _ _ h => h) (Or.inl ⟨by rfl, ?_⟩) (by assumption) (fun hHeld => ?_)
        rotate_left
        · intro w hSw; (try dsimp only at hSw); go_simp; all_goals with_reducible rfl
        try simp only [Act.put, List.getElem_toArray, List.getElem_cons_zero, List.getElem_cons_succ, List.setIfInBounds_toArray, List.set_cons_zero, List.set_cons_succ]
        refine Ph.T_pure (i := 1) (oi := _) (v := ?_) rfl (by kernel_rfl) (by kernel_rfl) (by kernel_rfl) (by kernel_rfl) (fun _ _ _ h => h) (Or.inl ⟨by rfl, ?_⟩) (by assumption) (fun hHeld => ?_)
        rotate_left
        · intro w hSw; (try dsimp only at hSw); go_simp; all_goals with_reducible rfl
        try simp only [Act.put, List.getElem_toArray, List.getElem_cons_zero, List.getElem_cons_succ, List.setIfInBounds_toArray, List.set_cons_zero, List.set_cons_succ]
        refine Ph.T_take (i := 2) (oi := _) (v := ?_) rfl (by kernel_rfl) (by kernel_rfl) (by kernel_rfl) (by kernel_rfl) (fun _ _ _ h => h) (Or.inl ⟨by rfl, ?_⟩) (by assumption) (fun hHeld => ?_)
        rotate_left
        · intro w hSw; (try dsimp only at hSw); go_simp; all_goals with_reducible rfl
        try simp only [Act.put, List.getElem_toArray, List.getElem_cons_zero, List.getElem_cons_succ, List.setIfInBounds_toArray, List.set_cons_zero, List.set_cons_succ]
        refine Ph.T_pure (i := 3) (oi := _) (v := ?_) rfl (by kernel_rfl) (by kernel_rfl) (by kernel_rfl) (by kernel_rfl) (fun _ _ _ h => h) (Or.inl ⟨by rfl, ?_⟩) (by assumption) (fun hHeld => ?_)
        rotate_left
        · intro w hSw; (try dsimp only at hSw); go_simp; all_goals with_reducible rfl
        try simp only [Act.put, List.getElem_toArray, List.getElem_cons_zero, List.getElem_cons_succ, List.setIfInBounds_toArray, List.set_cons_zero, List.set_cons_succ]
        refine Ph.T_pure (i := 4) (oi := _) (v := ?_) rfl (by kernel_rfl) (by kernel_rfl) (by kernel_rfl) (by kernel_rfl) (fun _ _ _ h => h) (Or.inl ⟨by rfl, ?_⟩) (by assumption) (fun hHeld => ?_)
        rotate_left
        · intro w hSw; (try dsimp only at hSw); go_simp; all_goals with_reducible rfl
        try simp only [Act.put, List.getElem_toArray, List.getElem_cons_zero, List.getElem_cons_succ, List.setIfInBounds_toArray, List.set_cons_zero, List.set_cons_succ]
        refine Ph.T_pure (i := 5) (oi := _) (v := ?_) rfl (by kernel_rfl) (by kernel_rfl) (by kernel_rfl) (by kernel_rfl) (fun _ _ _ h => h) (Or.inl ⟨by rfl, ?_⟩) (by assumption) (fun hHeld => ?_)
        rotate_left
        · intro w hSw; (try dsimp only at hSw); go_simp; all_goals with_reducible rfl
        try simp only [Act.put, List.getElem_toArray, List.getElem_cons_zero, List.getElem_cons_succ, List.setIfInBounds_toArray, List.set_cons_zero, List.set_cons_succ]
        refine Ph.T_take (i := 6) (oi := _) (v := ?_) rfl (by kernel_rfl) (by kernel_rfl) (by kernel_rfl) (by kernel_rfl) (fun _ _ _ h => h) (Or.inl ⟨by rfl, ?_⟩) (by assumption) (fun hHeld => ?_)
        rotate_left
        · intro w hSw; (try dsimp only at hSw); go_simp; all_goals with_reducible rfl
        try simp only [Act.put, List.getElem_toArray, List.getElem_cons_zero, List.getElem_cons_succ, List.setIfInBounds_toArray, List.set_cons_zero, List.set_cons_succ]
        refine Ph.T_pure (i := 7) (oi := _) (v := ?_) rfl (by kernel_rfl) (by kernel_rfl) (by kernel_rfl) (by kernel_rfl) (fun _ _ _ h => h) (Or.inl ⟨by rfl, ?_⟩) (by assumption) (fun hHeld => ?_)
        rotate_left
        · intro w hSw; (try dsimp only at hSw); go_simp; all_goals with_reducible rfl
        try simp only [Act.put, List.getElem_toArray, List.getElem_cons_zero, List.getElem_cons_succ, List.setIfInBounds_toArray, List.set_cons_zero, List.set_cons_succ]
        refine Ph.T_take (i := 8) (oi := _) (v := ?_) rfl (by kernel_rfl) (by kernel_rfl) (by kernel_rfl) (by kernel_rfl) (fun _ _ _ h => h) (Or.inl ⟨by rfl, ?_⟩) (by assumption) (fun hHeld => ?_)
        rotate_left
        · intro w hSw; (try dsimp only at hSw); go_simp; all_goals with_reducible rfl
        try simp only [Act.put, List.getElem_toArray, List.getElem_cons_zero, List.getElem_cons_succ, List.setIfInBounds_toArray, List.set_cons_zero, List.set_cons_succ]
        refine Ph.T_pure (i := 9) (oi := _) (v := ?_) rfl (by kernel_rfl) (by kernel_rfl) (by kernel_rfl) (by kernel_rfl) (fun _ _ _ h => h) (Or.inl ⟨by rfl, ?_⟩) (by assumption) (fun hHeld => ?_)
        rotate_left
        · intro w hSw; (try dsimp only at hSw); go_simp; all_goals with_reducible rfl
        try simp only [Act.put, List.getElem_toArray, List.getElem_cons_zero, List.getElem_cons_succ, List.setIfInBounds_toArray, List.set_cons_zero, List.set_cons_succ]
        refine Ph.T_pure (i := 10) (oi := _) (v := ?_) rfl (by kernel_rfl) (by kernel_rfl) (by kernel_rfl) (by kernel_rfl) (fun _ _ _ h => h) (Or.inl ⟨by rfl, ?_⟩) (by assumption) (fun hHeld => ?_)
        rotate_left
        · intro w hSw; (try dsimp only at hSw); go_simp; all_goals with_reducible rfl
        try simp only [Act.put, List.getElem_toArray, List.getElem_cons_zero, List.getElem_cons_succ, List.setIfInBounds_toArray, List.set_cons_zero, List.set_cons_succ]
        refine Ph.T_pure (i := 11) (oi := _) (v := ?_) rfl (by kernel_rfl) (by kernel_rfl) (by kernel_rfl) (by kernel_rfl) (fun _ _ _ h => h) (Or.inl ⟨by rfl, ?_⟩) (by assumption) (fun hHeld => ?_)
        rotate_left
        · intro w hSw; (try dsimp only at hSw); go_simp; all_goals with_reducible rfl
        try simp only [Act.put, List.getElem_toArray, List.getElem_cons_zero, List.getElem_cons_succ, List.setIfInBounds_toArray, List.set_cons_zero, List.set_cons_succ]
        refine Ph.T_take (i := 12) (oi := _) (v := ?_) rfl (by kernel_rfl) (by kernel_rfl) (by kernel_rfl) (by kernel_rfl) (fun _ _ _ h => h) (Or.inl ⟨by rfl, ?_⟩) (by assumption) (fun hHeld => ?_)
        rotate_left
        · intro w hSw; (try dsimp only at hSw); go_simp; all_goals with_reducible rfl
        try simp only [Act.put, List.getElem_toArray, List.getElem_cons_zero, List.getElem_cons_succ, List.setIfInBounds_toArray, List.set_cons_zero, List.set_cons_succ]
        refine Ph.T_pure (i := 13) (oi := _) (v := ?_) rfl (by kernel_rfl) (by kernel_rfl) (by kernel_rfl) (by kernel_rfl) (fun _ _ _ h => h) (Or.inl ⟨by rfl, ?_⟩) (by assumption) (fun hHeld => ?_)
        rotate_left
        · intro w hSw; (try dsimp only at hSw); go_simp; all_goals with_reducible rfl
        try simp only [Act.put, List.getElem_toArray, List.getElem_cons_zero, List.getElem_cons_succ, List.setIfInBounds_toArray, List.set_cons_zero, List.set_cons_succ]
        refine Ph.T_take (i := 14) (oi := _) (v := ?_) rfl (by kernel_rfl) (by kernel_rfl) (by kernel_rfl) (by kernel_rfl) (fun _ _ _ h => h) (Or.inl ⟨by rfl, ?_⟩) (by assumption) (fun hHeld => ?_)
        rotate_left
        · intro w hSw; (try dsimp only at hSw); go_simp; all_goals with_reducible rfl
        try simp only [Act.put, List.getElem_toArray, List.getElem_cons_zero, List.getElem_cons_succ, List.setIfInBounds_toArray, List.set_cons_zero, List.set_cons_succ]
        refine Ph.T_pure (i := 15) (oi := _) (v := ?_) rfl (by kernel_rfl) (by kernel_rfl) (by kernel_rfl) (by kernel_rfl) (fun _ _ _ h => h) (Or.inl ⟨by rfl, ?_⟩) (by assumption) (fun hHeld => ?_)
        rotate_left
        · intro w hSw; (try dsimp only at hSw); go_simp; all_goals with_reducible rfl
        try simp only [Act.put, List.getElem_toArray, List.getElem_cons_zero, List.getElem_cons_succ, List.setIfInBounds_toArray, List.set_cons_zero, List.set_cons_succ]
        refine Ph.T_pure (i := 16) (oi := _) (v := ?_) rfl (by kernel_rfl) (by kernel_rfl) (by kernel_rfl) (by kernel_rfl) (fun _ _ _ h => h) (Or.inl ⟨by rfl, ?_⟩) (by assumption) (fun hHeld => ?_)
        rotate_left
        · intro w hSw; (try dsimp only at hSw); go_simp; all_goals with_reducible rfl
        try simp only [Act.put, List.getElem_toArray, List.getElem_cons_zero, List.getElem_cons_succ, List.setIfInBounds_toArray, List.set_cons_zero, List.set_cons_succ]
        refine Ph.T_pure (i := 17) (oi := _) (v := ?_) rfl (by kernel_rfl) (by kernel_rfl) (by kernel_rfl) (by kernel_rfl) (fun _ _ _ h => h) (Or.inl ⟨by rfl, ?_⟩) (by assumption) (fun hHeld => ?_)
        rotate_left
        · intro w hSw; (try dsimp only at hSw); go_simp; all_goals with_reducible rfl
        try simp only [Act.put, List.getElem_toArray, List.getElem_cons_zero, List.getElem_cons_succ, List.setIfInBounds_toArray, List.set_cons_zero, List.set_cons_succ]
        refine Ph.T_take (i := 18) (oi := _) (v := ?_) rfl (by kernel_rfl) (by kernel_rfl) (by kernel_rfl) (by kernel_rfl) (fun _ _ _ h => h) (Or.inl ⟨by rfl, ?_⟩) (by assumption) (fun hHeld => ?_)
        rotate_left
        · intro w hSw; (try dsimp only at hSw); go_simp; all_goals with_reducible rfl
        try simp only [Act.put, List.getElem_toArray, List.getElem_cons_zero, List.getElem_cons_succ, List.setIfInBounds_toArray, List.set_cons_zero, List.set_cons_succ]
        refine Ph.T_pure (i := 19) (oi := _) (v := ?_) rfl (by kernel_rfl) (by kernel_rfl) (by kernel_rfl) (by kernel_rfl) (fun _ _ _ h => h) (Or.inl ⟨by rfl, ?_⟩) (by assumption) (fun hHeld => ?_)
        rotate_left
        · intro w hSw; (try dsimp only at hSw); go_simp; all_goals with_reducible rfl
        try simp only [Act.put, List.getElem_toArray, List.getElem_cons_zero, List.getElem_cons_succ, List.setIfInBounds_toArray, List.set_cons_zero, List.set_cons_succ]
        refine Ph.T_one (i := 20) (o := _) (by kernel_rfl) rfl (fun K hK => ?_)
        refine step_min _ (by rfl) (.tmp 60) (by rfl) _ m HM.out (by simp [Act.eval, Act.put]) ?_
        refine hK.out _ _ ?_ (fun hHeld => ?_)
        · exact HBK.out _ (bel_eq12 (Below.refl _ wr) rfl rfl rfl rfl)
        clear hK K
        try simp only [Act.put, List.getElem_toArray, List.getElem_cons_zero, List.getElem_cons_succ, List.setIfInBounds_toArray, List.set_cons_zero, List.set_cons_succ]
        refine Ph.T_pure (i := 21) (oi := _) (v := ?_) rfl (by kernel_rfl) (by kernel_rfl) (by kernel_rfl) (by kernel_rfl) (fun _ _ _ h => h) (Or.inl ⟨by rfl, ?_⟩) (by assumption) (fun hHeld => ?_)
        rotate_left
        · intro w hSw; (try dsimp only at hSw); go_simp; all_goals with_reducible rfl
        try simp only [Act.put, List.getElem_toArray, List.getElem_cons_zero, List.getElem_cons_succ, List.setIfInBounds_toArray, List.set_cons_zero, List.set_cons_succ]
        refine Ph.T_pure (i := 22) (oi := _) (v := ?_) rfl (by kernel_rfl) (by kernel_rfl) (by kernel_rfl) (by kernel_rfl) (fun _ _ _ h => h) (Or.inl ⟨by rfl, ?_⟩) (by assumption) (fun hHeld => ?_)
        rotate_left
        · intro w hSw; (try dsimp only at hSw); go_simp; all_goals with_reducible rfl
        try simp only [Act.put, List.getElem_toArray, List.getElem_cons_zero, List.getElem_cons_succ, List.setIfInBounds_toArray, List.set_cons_zero, List.set_cons_succ]
        refine Ph.T_one (i := 23) (o := _) (by kernel_rfl) rfl (fun K hK => ?_)
        go_simp
        go_wp2_with fail
        refine hK.out _ _ ?_ (fun hHeld => ?_)
        · exact HBK.out _ (bel_eq12 ((Below.refl (w.heap.size + 1 + 1) wr).alloc (by omega) _) rfl rfl rfl rfl)
        clear hK K
        try simp only [Act.put, List.getElem_toArray, List.getElem_cons_zero, List.getElem_cons_succ, List.setIfInBounds_toArray, List.set_cons_zero, List.set_cons_succ]
        refine Ph.T_one (i := 24) (o := _) (by kernel_rfl) rfl (fun K hK => ?_)
        refine step_app_per _ (by rfl) (.tmp 41) (.tmp 64) (by rfl) wr (w.heap.size + 1 + 1) _ acc z HO.out HZ1.out HAP.out ((grown_drew wr 1 _).trans (World.grownBy_alloc _ _ _)) (by omega) hacc (by simp [Act.eval, Act.put]) wr.heap.size (by simp [Act.eval, Act.put]) (by rw [HZV.out]; exact heap_alloc_new _ _) ?_
        intro v9 w9 ho9 hg9
        have HO9 := Lib.hid ho9
        have hb9 : Below (w.heap.size + 1 + 1) wr w9 := (Below.refl _ wr).grown hg9 (by omega) (fun q hq => (World.ownsRow.lt HO.out.1 q hq).1)
        have HB9 := Lib.hid hb9
        clear hb9 hg9 ho9
        refine hK.out _ _ ?_ (fun hHeld => ?_)
        · exact HBK.out _ HB9.out
        clear hK K
        try simp only [Act.put, List.getElem_toArray, List.getElem_cons_zero, List.getElem_cons_succ, List.setIfInBounds_toArray, List.set_cons_zero, List.set_cons_succ]
        refine Ph.T_free (i := 25) (oi := _) (v := ?_) (by kernel_rfl) (by kernel_rfl) rfl (Or.inl ⟨by rfl, ?_⟩) ?_
        rotate_left
        · intro w; go_simp; all_goals with_reducible rfl
        try simp only [Act.put, List.getElem_toArray, List.getElem_cons_zero, List.getElem_cons_succ, List.setIfInBounds_toArray, List.set_cons_zero, List.set_cons_succ]
        refine Ph.T_done (by kernel_rfl) ?_ _
        refine NoPanic.normal ?_
        go_wp2
        go_roundw
        case rel => exact ⟨k + 1, acc ++ [z], by go_num, by omega, by omega, by rw [List.length_append, HAL.out]; rfl, HO9.out, HPZ.out, sx_snoc HSA.out HZ0.out (HB9.out.mono (by omega)), HBL.out.trans (HB9.out.mono (by omega))⟩
        case measure => simp [intOf]; omega
      · have hfin : pes acc = (per.take 12).map (fun p => (⟨p.el, p.at_.take 70⟩ : Pe)) := by
          obtain rfl : k = 12 := by omega
          rw [HPER.out, hpes]
        have HFIN := Lib.hid hfin; have HOW := Lib.hid hown; have HSA := Lib.hid hsa; have HBL := Lib.hid hbel
        obtain ⟨B, nB, cB, rfl⟩ := po_shape hown
        have hx5 := HH1.out.below hbel (by omega); have hz5 := HH2.out.below hbel (by omega)
        have HX5 := Lib.hid hx5; have HZ5 := Lib.hid hz5; have HBW := Lib.hid hbw
        have hxf := hx5.f 5
        clear hfin hown hsa hbel hpes hx5 hz5 hbw hhb1
        go_upto_region 10 with (fail)
        obtain ⟨W9, hW9⟩ : ∃ W9, wr.setCell ⟨w.heap.size, 5, none⟩ (.slice B nB cB) = W9 := ⟨_, rfl⟩
        have hg9 : wr.grownBy W9 (some w.heap.size) := hW9 ▸ gcell12 wr _ 5 _
        have hx9 : Hb W9 w.heap.size #[.bool al, .bool aa, .slice E m1 ce, .slice R m2 cr, .slice T m3 ct, .slice B nB cB, .bool cm, .bool da] := hW9 ▸ HX5.out.set 5 (.slice B nB cB)
        have hz9 : Hb W9 (w.heap.size + 1) #[.bool false, .bool false, .slice none 0 0, .slice none 0 0, .slice none 0 0, .slice none 0 0, .bool false, .bool false] := HZ5.out.keep (hg9.block _ HZ5.out.lt (by simp))
        rw [hW9]
        have HRG9 := Lib.hid hx9.range; have HTH := Lib.hid (hz9.there 8 rfl)
        clear hW9
        go_wp2_with (first
          | (show wpList _ _ _ (⟨_, Op.load 26 (.tmp 1), _, _, _, _⟩ :: _) _ _; refine wpList_load_mid rfl 26 (.tmp 1) rfl w.heap.size 0 rfl _ _ HRG9.out Try.underlying26 rfl size_conf ?_)
          | (show wpList _ _ _ (⟨none, Op.store 26 (.tmp 2) (.tmp 68), _, _, _, _⟩ :: _) _ _; refine wpList_store_mid rfl 26 (.tmp 2) (.tmp 68) rfl (w.heap.size + 1) 0 #[.bool al, .bool aa, .slice E m1 ce, .slice R m2 cr, .slice T m3 ct, .slice B nB cB, .bool cm, .bool da] rfl rfl HTH.out size_conf (by simp [Value.oneCell']) ?_))
        obtain ⟨W, hW, hgW, hbW⟩ := res_box (c := ⟨al, aa, els, reps, ats, per, cm, da⟩) (vE := .slice E m1 ce) (vR := .slice R m2 cr) (vA := .slice T m3 ct) (vP := .slice B nB cB) hz9 rfl
        obtain ⟨z0, z1, z2, z3, z4, z5, z6, z7⟩ := hbW.at_
        rw [← hW]
        have hsz9 := hg9.size
        have hwW : Below w.heap.size wr W := (((Below.refl w.heap.size wr).grown hg9 (by omega) (fun q hq => by injection hq with hq; omega)).grown hgW (by omega) (fun q hq => by injection hq with hq; omega))
        have hbelW : Below w.heap.size w W := HBW.out.trans (hwW.mono (by omega))
        have hpW : Pv W W.heap.size (.slice B nB cB) acc := po_kept HOW.out (fun z hz => ((HSA.out z hz).below hwW).more hbelW.size) (fun b hb hb2 => (hgW.block b (by omega) (by simp; omega)).trans (hg9.block b hb2 (by simp; omega))) hwW.size
        have hcW : Cp W W.heap.size (boundC ⟨al, aa, els, reps, ats, per, cm, da⟩) (.slice E m1 ce) (.slice R m2 cr) (.slice T m3 ct) (.slice B nB cB) acc := ⟨(Sv.below HSE.out hbelW (Nat.le_refl _)).more hbelW.size, (Sv.below HSR.out hbelW (Nat.le_refl _)).more hbelW.size, (Sv.below HST.out hbelW (Nat.le_refl _)).more hbelW.size, hpW, HFIN.out⟩
        clear hx9 hz9 HRG9 HTH hgW hW hg9 HX5 HZ5 HOW HSA HFIN hwW hpW
        go_wp2
        exact bodyPost_ret (v := .agg #[.bool al, .bool aa, .slice E m1 ce, .slice R m2 cr, .slice T m3 ct, .slice B nB cB, .bool cm, .bool da]) (by simp [results, Try.f11, go_sem, z0, z1, z2, z3, z4, z5, z6, z7]) rfl ⟨_, rfl, ⟨_, _, _, _, _, rfl, hcW⟩, hbelW⟩
    · have hfin : pes acc = (per.take 12).map (fun p => (⟨p.el, p.at_.take 70⟩ : Pe)) := by
        rw [HPER.out, hpes, List.take_of_length_le (show l.length ≤ k by omega), List.take_of_length_le (show l.length ≤ 12 by omega)]
      have HFIN := Lib.hid hfin; have HOW := Lib.hid hown; have HSA := Lib.hid hsa; have HBL := Lib.hid hbel
      obtain ⟨B, nB, cB, rfl⟩ := po_shape hown
      have hx5 := HH1.out.below hbel (by omega); have hz5 := HH2.out.below hbel (by omega)
      have HX5 := Lib.hid hx5; have HZ5 := Lib.hid hz5; have HBW := Lib.hid hbw
      have hxf := hx5.f 5
      clear hfin hown hsa hbel hpes hx5 hz5 hbw hhb1
      go_upto_region 10 with (fail)
      obtain ⟨W9, hW9⟩ : ∃ W9, wr.setCell ⟨w.heap.size, 5, none⟩ (.slice B nB cB) = W9 := ⟨_, rfl⟩
      have hg9 : wr.grownBy W9 (some w.heap.size) := hW9 ▸ gcell12 wr _ 5 _
      have hx9 : Hb W9 w.heap.size #[.bool al, .bool aa, .slice E m1 ce, .slice R m2 cr, .slice T m3 ct, .slice B nB cB, .bool cm, .bool da] := hW9 ▸ HX5.out.set 5 (.slice B nB cB)
      have hz9 : Hb W9 (w.heap.size + 1) #[.bool false, .bool false, .slice none 0 0, .slice none 0 0, .slice none 0 0, .slice none 0 0, .bool false, .bool false] := HZ5.out.keep (hg9.block _ HZ5.out.lt (by simp))
      rw [hW9]
      have HRG9 := Lib.hid hx9.range; have HTH := Lib.hid (hz9.there 8 rfl)
      clear hW9
      go_wp2_with (first
        | (show wpList _ _ _ (⟨_, Op.load 26 (.tmp 1), _, _, _, _⟩ :: _) _ _; refine wpList_load_mid rfl 26 (.tmp 1) rfl w.heap.size 0 rfl _ _ HRG9.out Try.underlying26 rfl size_conf ?_)
        | (show wpList _ _ _ (⟨none, Op.store 26 (.tmp 2) (.tmp 68), _, _, _, _⟩ :: _) _ _; refine wpList_store_mid rfl 26 (.tmp 2) (.tmp 68) rfl (w.heap.size + 1) 0 #[.bool al, .bool aa, .slice E m1 ce, .slice R m2 cr, .slice T m3 ct, .slice B nB cB, .bool cm, .bool da] rfl rfl HTH.out size_conf (by simp [Value.oneCell']) ?_))
      obtain ⟨W, hW, hgW, hbW⟩ := res_box (c := ⟨al, aa, els, reps, ats, per, cm, da⟩) (vE := .slice E m1 ce) (vR := .slice R m2 cr) (vA := .slice T m3 ct) (vP := .slice B nB cB) hz9 rfl
      obtain ⟨z0, z1, z2, z3, z4, z5, z6, z7⟩ := hbW.at_
      rw [← hW]
      have hsz9 := hg9.size
      have hwW : Below w.heap.size wr W := (((Below.refl w.heap.size wr).grown hg9 (by omega) (fun q hq => by injection hq with hq; omega)).grown hgW (by omega) (fun q hq => by injection hq with hq; omega))
      have hbelW : Below w.heap.size w W := HBW.out.trans (hwW.mono (by omega))
      have hpW : Pv W W.heap.size (.slice B nB cB) acc := po_kept HOW.out (fun z hz => ((HSA.out z hz).below hwW).more hbelW.size) (fun b hb hb2 => (hgW.block b (by omega) (by simp; omega)).trans (hg9.block b hb2 (by simp; omega))) hwW.size
      have hcW : Cp W W.heap.size (boundC ⟨al, aa, els, reps, ats, per, cm, da⟩) (.slice E m1 ce) (.slice R m2 cr) (.slice T m3 ct) (.slice B nB cB) acc := ⟨(Sv.below HSE.out hbelW (Nat.le_refl _)).more hbelW.size, (Sv.below HSR.out hbelW (Nat.le_refl _)).more hbelW.size, (Sv.below HST.out hbelW (Nat.le_refl _)).more hbelW.size, hpW, HFIN.out⟩
      clear hx9 hz9 HRG9 HTH hgW hW hg9 HX5 HZ5 HOW HSA HFIN hwW hpW
      go_wp2
      exact bodyPost_ret (v := .agg #[.bool al, .bool aa, .slice E m1 ce, .slice R m2 cr, .slice T m3 ct, .slice B nB cB, .bool cm, .bool da]) (by simp [results, Try.f11, go_sem, z0, z1, z2, z3, z4, z5, z6, z7]) rfl ⟨_, rfl, ⟨_, _, _, _, _, rfl, hcW⟩, hbelW⟩

end Go.Proofs.Ytdjkeakagmgfgaa.Co

namespace Go.Proofs.Ytdjkeakagmgfgaa.Co
set_option linter.unusedVariables false
set_option linter.unusedSimpArgs false
open Go.RowKit Ba Fm Fo Nm Rk
/-- No string lies there. -/
def noStr (cs : Array Value) : Prop := ∀ (i : Nat) (s : ByteArray), cs[i]? ≠ some (Value.string s)
theorem noStr8 (a b m d : Bool) (A1 A2 A3 A4 : Option Addr) (n1 n2 n3 n4 c1 c2 c3 c4 : Nat) : noStr #[.bool a, .bool b, .slice A1 n1 c1, .slice A2 n2 c2, .slice A3 n3 c3, .slice A4 n4 c4, .bool m, .bool d] := fun i s => by
  match i with
  | 0 | 1 | 2 | 3 | 4 | 5 | 6 | 7 => simp
  | i + 8 => simp
theorem sv_shape {w : World} {N : Nat} {v : Value} {l : List ByteArray} (h : Sv w N v l) : ∃ A n c, v = .slice A n c := by
  obtain ⟨A, c, e, _⟩ := h
  exact ⟨A, _, c, e⟩
theorem pv_shape {w : World} {N : Nat} {v : Value} {l : List Pw} (h : Pv w N v l) : ∃ A n c, v = .slice A n c := by
  obtain ⟨A, c, e, _⟩ := h
  exact ⟨A, _, c, e⟩
theorem sv_boxed {w w' : World} {b N : Nat} {cs : Array Value} {v : Value} {l : List ByteArray} (h : Sv w N v l) (hb : Hb w b cs) (hn : noStr cs) (hg : w.grownBy w' (some b)) (hN : N ≤ w.heap.size) : Sv w' N v l := by
  obtain ⟨A, c, e, h1, h2, h3⟩ := h
  refine ⟨A, c, e, h1, h2, fun h0 => ?_⟩
  obtain ⟨b', off, eA, hb', hc⟩ := h3 h0
  have hne : b' ≠ b := by
    rintro rfl
    have := hc 0 h0
    rw [cell_of_row w b' (off + 0) _ _ _ hb] at this
    exact hn _ _ this
  exact ⟨b', off, eA, hb', fun j hj => (World.cell?_of_block (a := ⟨b', off + j, none⟩) (hg.block b' (by omega) (by simpa using hne))).trans (hc j hj)⟩
theorem pv_boxed {w w' : World} {b N : Nat} {cs : Array Value} {v : Value} {l : List Pw} (h : Pv w N v l) (hb : Hb w b cs) (hn : noStr cs) (hg : w.grownBy w' (some b)) (hN : N ≤ w.heap.size) : Pv w' N v l := by
  obtain ⟨A, c, e, h1, h2, h3, h4⟩ := h
  refine ⟨A, c, e, h1, h2, fun h0 => ?_, fun x hx => sv_boxed (h4 x hx) hb hn hg hN⟩
  obtain ⟨b', off, eA, hb', hc⟩ := h3 h0
  have hne : b' ≠ b := by
    rintro rfl
    have := hc 0 h0 0 (.string l[0].pe.el) rfl
    rw [cell_of_row w b' _ _ _ _ hb] at this
    exact hn _ _ this
  exact ⟨b', off, eA, hb', fun j hj => range_keep12 (hc j hj) fun o => World.cell?_of_block (a := ⟨b', o, none⟩) (hg.block b' (by omega) (by simpa using hne))⟩
theorem cp_boxed {w w' : World} {b : Nat} {cs : Array Value} {c : Cf} {vE vR vA vP : Value} {l : List Pw} (h : Cp w w.heap.size c vE vR vA vP l) (hb : Hb w b cs) (hn : noStr cs) (hg : w.grownBy w' (some b)) : Cp w' w'.heap.size c vE vR vA vP l :=
  (⟨sv_boxed h.e hb hn hg (Nat.le_refl _), sv_boxed h.r hb hn hg (Nat.le_refl _), sv_boxed h.a hb hn hg (Nat.le_refl _), pv_boxed h.p hb hn hg (Nat.le_refl _), h.m⟩ : Cp w' w.heap.size c vE vR vA vP l).more hg.size
/-- A configuration is stored in a box. -/
theorem res_hb {w : World} {g : Nat} {cs : Array Value} (h : Hb w g cs) (hc : cs.size = 8) (v0 v1 v2 v3 v4 v5 v6 v7 : Value) :
    ∃ W, W = w.setCells g 0 [v0, v1, v2, v3, v4, v5, v6, v7] ∧ w.grownBy W (some g) ∧ Hb W g #[v0, v1, v2, v3, v4, v5, v6, v7] := by
  refine ⟨_, rfl, gcells12 g _ 0 w, ?_⟩
  match cs, hc with
  | ⟨[x0, x1, x2, x3, x4, x5, x6, x7]⟩, _ =>
    exact (((((((h.set 0 v0 (by simp)).set 1 v1 (by simp)).set 2 v2 (by simp)).set 3 v3 (by simp)).set 4 v4 (by simp)).set 5 v5 (by simp)).set 6 v6 (by simp)).set 7 v7 (by simp)
theorem mem_bound {c : Cf} {p : Pe} (h : p ∈ (boundC c).per) : ∃ q ∈ c.per, p.el = q.el ∧ p.at_ = q.at_.take 70 := by
  obtain ⟨q, hq, rfl⟩ := List.mem_map.1 (show p ∈ (c.per.take 12).map fun p => (⟨p.el, p.at_.take 70⟩ : Pe) from h)
  exact ⟨q, List.mem_of_mem_take hq, rfl, rfl⟩
theorem sm_bound {c : Cf} (h : St c) : Sm (boundC c) := by
  refine ⟨?_, ?_, ?_, ?_, fun p hp => ?_, fun s hs => h.es s (List.mem_of_mem_take hs), fun s hs => h.rs s (List.mem_of_mem_take hs), fun s hs => h.as_ s (List.mem_of_mem_take hs), fun p hp => ?_⟩
  · show (c.els.take 70).length ≤ 1000; rw [List.length_take]; omega
  · show (c.reps.take 70).length ≤ 1000; rw [List.length_take]; omega
  · show (c.ats.take 70).length ≤ 1000; rw [List.length_take]; omega
  · show ((c.per.take 12).map _).length ≤ 1000; rw [List.length_map, List.length_take]; omega
  · obtain ⟨q, hq, h1, h2⟩ := mem_bound hp
    rw [h2, List.length_take]; omega
  · obtain ⟨q, hq, h1, h2⟩ := mem_bound hp
    rw [h1, h2]
    exact ⟨(h.ps q hq).1, fun s hs => (h.ps q hq).2 s (List.mem_of_mem_take hs)⟩
/-- A contract, as it is asked for behind a beginning. -/
theorem on_base {P : Program} {f : FuncId} {args : Array Value} {w0 w : World} {T : Ending → Prop} (h : Calls P f args w fun e w' => T e ∧ Below w.heap.size w w') (hb : Below w0.heap.size w0 w) : Calls P f args w fun e w' => T e ∧ Below w0.heap.size w0 w' :=
  h.mono fun e w' ⟨he, hw⟩ => ⟨he, hb.trans (hw.mono hb.size)⟩

end Go.Proofs.Ytdjkeakagmgfgaa.Co

namespace Go.Proofs.Ytdjkeakagmgfgaa.Cn
set_option maxRecDepth 100000
set_option linter.unusedVariables false
set_option linter.unusedSimpArgs false
open Go.RowKit Ba Ro
open Co (Cf Cv Sm confV confO attrB12 elementN checkN bel_eq12 Hb noStr)
theorem ra_boxed {w w' : World} {b N : Nat} {cs : Array Value} {A : Option Addr} {l : List At} (h : Ra w N A l) (hb : Hb w b cs) (hn : noStr cs) (hg : w.grownBy w' (some b)) (hN : N ≤ w.heap.size) : Ra w' N A l := fun h0 => by
  obtain ⟨b', off, e, hb', hc⟩ := h h0
  have hne : b' ≠ b := by
    rintro rfl
    have := hc 0 h0 0 (.string l[0].name) rfl
    rw [cell_of_row w b' _ _ _ _ hb] at this
    exact hn _ _ this
  exact ⟨b', off, e, hb', fun j hj => range_keep (hc j hj) fun o => World.cell?_of_block (a := ⟨b', o, none⟩) (hg.block b' (by omega) (by simpa using hne))⟩
theorem rv_boxed {w w' : World} {b : Nat} {cs : Array Value} {v : Value} {l : List Cw} (h : Rv w v l) (hb : Hb w b cs) (hn : noStr cs) (hg : w.grownBy w' (some b)) : Rv w' v l := by
  obtain ⟨A, c, e, h1, h2, h3, h4⟩ := h
  refine ⟨A, c, e, h1, h2, (show Rr w' w.heap.size A l from ⟨fun h0 => ?_, fun x hx => ?_⟩).more hg.size, h4⟩
  · obtain ⟨b', off, eA, hb', hc⟩ := h3.1 h0
    have hne : b' ≠ b := by
      rintro rfl
      have := hc 0 h0 2 (.string l[0].ro.name) rfl
      rw [cell_of_row w b' _ _ _ _ hb] at this
      exact hn _ _ this
    exact ⟨b', off, eA, hb', fun j hj => range_keep (hc j hj) fun o => World.cell?_of_block (a := ⟨b', o, none⟩) (hg.block b' (by omega) (by simpa using hne))⟩
  · obtain ⟨a1, a2, a3, a4, a5⟩ := h3.2 x hx
    exact ⟨a1, a2, a3, ra_boxed a4 hb hn hg (Nat.le_refl _), a5⟩
theorem rv_shape {w : World} {v : Value} {l : List Cw} (h : Rv w v l) : ∃ A c, v = .slice A l.length c := by
  obtain ⟨A, c, e, _⟩ := h
  exact ⟨A, c, e⟩
theorem txt_boundR (l : List Ro) : (txt (boundR l)).length ≤ (txt l).length := by
  have e : ∀ m : List Ro, txt (m.map fun x => { x with attrs := x.attrs.take 8 }) = txt m := by
    intro m
    induction m with
    | nil => rfl
    | cons x r ih => rw [List.map_cons, txt, txt, ih]
  rw [boundR, e]
  exact txt_take l 40
/-- Rows as the laws have them. -/
structure Lw (L : List Ro) : Prop where
  n : L.length ≤ 40
  z : Rz.Small L
  f : Few L
  t : (txt L).length ≤ 1000000000
theorem Lw.clean {c : Cf} {s : Bool} {L : List Ro} (h : Lw L) (hr : right L = true) : Lw (cleanL c s L) :=
  ⟨Nat.le_trans (clean_len c s hr) h.n, small_clean hr h.z h.t, few_clean hr h.f, Nat.le_trans (clean_txt_le c s hr) h.t⟩
theorem bound13 (v : Value) (l : List Cw) (w : World) (h : Rv w v l) (hz : Rz.Small (ros l)) (ht : (txt (ros l)).length ≤ 1000000000) :
    Calls Try.prog 10 #[v] w fun e w' => ∃ v' l', e = .returned v' ∧ Rv w' v' l' ∧ ros l' = boundR (ros l) ∧ Lw (ros l') ∧ Below w.heap.size w w' := by
  obtain ⟨A, c, rfl, hlc, hcm, hr, hh⟩ := h
  refine (boundR_any A c l w hr hlc hcm).mono ?_
  rintro e w' ⟨v', l', he, ho, ha, hl, hb⟩
  refine ⟨v', l', he, ho.rv (by rw [hl]; exact held_bound hh), hl, ?_, hb⟩
  rw [hl]
  exact ⟨len_bound40 _, small_bound hz, fun x hx => Nat.le_trans (attrs_bound8 x hx) (by omega), Nat.le_trans (txt_boundR _) ht⟩
/-- Rows, as they are asked for in the laws. -/
theorem rowsL (u v : Value) (l : List Cw) (L : List Ro) (c : Cf) (s : Bool) (w w0 : World) (hl : Rv w u l) (hL : ros l = L) (hw : Lw L) (hc : Cv w w.heap.size v c) (hs : Sm c) (E : Int) (q : List Ro) (hE : errI c L = E) (hq : outL c s L = q) (hb : Below w0.heap.size w0 w) :
    Calls Try.prog 14 #[u, v, .bool s] w fun r w' => ∃ A k y, r = .returned (.tuple #[.slice A (List.length y) k, .int .i64 E]) ∧ ros y = q ∧ Rv w' (.slice A (List.length y) k) y ∧ Below w0.heap.size w0 w' ∧ Below w.heap.size w w' := by
  subst hL
  refine (rows13 u v l c s w hl (by rw [← len_ros]; have := hw.n; omega) hw.z hw.f hw.t hc hs E q hE hq).mono ?_
  rintro r w' ⟨V, y, h1, h2, h3, h4, h5⟩
  obtain ⟨A, k, rfl⟩ := rv_shape h4
  exact ⟨A, k, y, h1, h3, h4, hb.trans (h5.mono hb.size), h5⟩
theorem out_ok {c : Cf} {s : Bool} {L : List Ro} (h : errI c L = 0) : outL c s L = cleanL c s L := by unfold outL; rw [if_pos h]
theorem out_no {c : Cf} {s : Bool} {L : List Ro} (h : ¬ errI c L = 0) : outL c s L = [] := by unfold outL; rw [if_neg h]
end Go.Proofs.Ytdjkeakagmgfgaa.Cn

namespace Go.Proofs.Ytdjkeakagmgfgaa.Cn
set_option maxRecDepth 100000
set_option linter.unusedVariables false
set_option linter.unusedSimpArgs false
open Go.RowKit Ba Ro
open Co (Cf Cv Sm confV confO attrB12 elementN checkN bel_eq12 Hb noStr noStr8 allC)
open Rk (safeB)
/-- Does an element go? -/
def goneB (d : Cf) (x : Ro) : Bool := x.kind == 0 && elementN d x.name == 1
theorem txt_top (l : List Ro) : textAt l (-1) = txt l := by unfold textAt; rw [if_pos rfl]
theorem size_B (l : List UInt8) : (B l).size = l.length := by rw [← size_L, L_B]
set_option maxRecDepth 100000 in
set_option maxHeartbeats 8000000 in
theorem law13_texts (vl v : Value) (ll : List Cw) (c : Cf) (w : World) (hv : Rv w vl ll) (hz : Rz.Small (ros ll)) (ht : (txt (ros ll)).length ≤ 1000000000) (h : Cv w w.heap.size v c) (hst : Co.St c) :
    Calls Try.prog 7 #[vl, v] w fun r w' => r = .returned (.bool true) ∧ Below w.heap.size w w' := by
  obtain ⟨d, hd⟩ : ∃ d, Co.boundC c = d := ⟨_, rfl⟩
  have hsm := Co.sm_bound hst
  rw [hd] at hsm
  obtain ⟨uE, uR, uA, uP, lu, rfl, h⟩ := h
  obtain ⟨E0, e0, k0, rfl⟩ := Co.sv_shape h.e
  obtain ⟨R0, r0, k1, rfl⟩ := Co.sv_shape h.r
  obtain ⟨T0, t0, k2, rfl⟩ := Co.sv_shape h.a
  obtain ⟨P0, p0, k3, rfl⟩ := Co.pv_shape h.p
  obtain ⟨W0, hW0⟩ : ∃ W0, w.alloc (confO c (.slice E0 e0 k0) (.slice R0 r0 k1) (.slice T0 t0 k2) (.slice P0 p0 k3)) = W0 := ⟨_, rfl⟩
  have hb0 : Below w.heap.size w W0 := hW0 ▸ Co.below_new12 w _
  have hx0 : Hb W0 w.heap.size #[.bool c.allow, .bool c.attrsAllow, .slice E0 e0 k0, .slice R0 r0 k1, .slice T0 t0 k2, .slice P0 p0 k3, .bool c.comments, .bool c.dataAttrs] := hW0 ▸ Hb.new w _
  have HBN := Lib.hid (bound13 vl ll W0 (hv.below hb0) hz ht)
  have HBD := Lib.hid (fun wx (hb : Below W0.heap.size W0 wx) => Co.bound12 (confV c (.slice E0 e0 k0) (.slice R0 r0 k1) (.slice T0 t0 k2) (.slice P0 p0 k3)) c wx ⟨_, _, _, _, _, rfl, (h.on hb0).on hb⟩)
  rw [hd] at HBD
  have HW0 := Lib.hid hW0; have HB0 := Lib.hid hb0; have HX0 := Lib.hid hx0; have HSM := Lib.hid hsm
  clear hW0 hb0 hx0 hsm hd hst h hv hz ht
  go_enter Try.func7, Try.ntmps7
  go_upto_region 1 with (fail)
  rw [HW0.out]
  clear HW0
  go_upto_region 3 with (first
    | (go_at_call 10; refine HBN.out.mono ?_; rintro r w1 ⟨v1, l1, rfl, hv1, hl1, hw1, hb1⟩; have HV1 := Lib.hid hv1; have HL1 := Lib.hid hl1; have HLW := Lib.hid hw1; have HB1 := Lib.hid hb1; have HR1 := Lib.hid (HX0.out.on hb1).range; clear hv1 hl1 hw1 hb1)
    | (show wpList _ _ _ (⟨_, Op.load 26 (.tmp 3), _, _, _, _⟩ :: _) _ _; refine wpList_load_mid rfl 26 (.tmp 3) rfl w.heap.size 0 rfl _ _ HR1.out Try.underlying26 rfl Co.size_conf ?_)
    | (go_at_call 11; refine (HBD.out w1 HB1.out).mono ?_; rintro r w2 ⟨v2, rfl, hc2, hb2⟩; obtain ⟨vE, vR, vA, vP, pl, rfl, hc2⟩ := hc2; obtain ⟨A1, n1, c1, rfl⟩ := Co.sv_shape hc2.e; obtain ⟨A2, n2, c2, rfl⟩ := Co.sv_shape hc2.r; obtain ⟨A3, n3, c3, rfl⟩ := Co.sv_shape hc2.a; obtain ⟨A4, n4, c4, rfl⟩ := Co.pv_shape hc2.p; have hx2 := (HX0.out.on HB1.out).on hb2; have HTH := Lib.hid (hx2.there 8 rfl); have HX2 := Lib.hid hx2; have HC2 := Lib.hid hc2; have HB2 := Lib.hid hb2; clear hx2 hc2 hb2)
    | (show wpList _ _ _ (⟨none, Op.store 26 (.tmp 3) (.tmp 14), _, _, _, _⟩ :: _) _ _; refine wpList_store_mid rfl 26 (.tmp 3) (.tmp 14) rfl w.heap.size 0 #[.bool d.allow, .bool d.attrsAllow, .slice A1 n1 c1, .slice A2 n2 c2, .slice A3 n3 c3, .slice A4 n4 c4, .bool d.comments, .bool d.dataAttrs] rfl rfl HTH.out Co.size_conf (by simp [Value.oneCell']) ?_)
    | fail)
  obtain ⟨W, hW1, hg1, hh1⟩ := Co.res_hb HX2.out rfl (.bool d.allow) (.bool d.attrsAllow) (.slice A1 n1 c1) (.slice A2 n2 c2) (.slice A3 n3 c3) (.slice A4 n4 c4) (.bool d.comments) (.bool d.dataAttrs)
  rw [← hW1]
  have hnS := noStr8 c.allow c.attrsAllow c.comments c.dataAttrs E0 R0 T0 P0 e0 r0 t0 p0 k0 k1 k2 k3
  have hcW := Co.cp_boxed HC2.out HX2.out hnS hg1
  have hvW := rv_boxed (HV1.out.below HB2.out) HX2.out hnS hg1
  have HNR : Hid (n2 = d.reps.length) := Lib.hid (by
    obtain ⟨_, _, e, _⟩ := HC2.out.r
    injection e)
  have h01 := HB0.out.trans (HB1.out.mono HB0.out.size)
  have hbW : Below w.heap.size w W := (h01.trans (HB2.out.mono h01.size)).grown hg1 (Nat.le_trans h01.size HB2.out.size) (fun q hq => by injection hq with hq; omega)
  have HVF := Lib.hid (fun wx (hb : Below W.heap.size W wx) => hvW.below hb)
  have HCF := Lib.hid (fun wx (hb : Below W.heap.size W wx) => show Cv wx wx.heap.size (confV d (.slice A1 n1 c1) (.slice A2 n2 c2) (.slice A3 n3 c3) (.slice A4 n4 c4)) d from ⟨_, _, _, _, _, rfl, hcW.on hb⟩)
  have HXF := Lib.hid (fun wx (hb : Below W.heap.size W wx) => show wx.rangeAt w.heap.size 0 [.bool d.allow, .bool d.attrsAllow, .slice A1 n1 c1, .slice A2 n2 c2, .slice A3 n3 c3, .slice A4 n4 c4, .bool d.comments, .bool d.dataAttrs] from (hh1.on hb).range)
  have HBW := Lib.hid hbW
  have HVW := Lib.hid hvW
  obtain ⟨L, hL⟩ : ∃ L, ros l1 = L := ⟨_, rfl⟩
  have HLL := Lib.hid hL
  have hlw := HLW.out
  rw [hL] at hlw
  have HLW := Lib.hid hlw
  have hrf := Below.refl W.heap.size W
  have HRF := Lib.hid hrf
  obtain ⟨AL, kL, rfl⟩ := rv_shape hvW
  clear hW1 hg1 hh1 hcW hvW h01 hbW hnS hL hlw hrf HTH HX2 HC2 HB2 HB1 HV1 HR1 HX0 HB0 HBD HBN HL1
  obtain ⟨E, hE⟩ : ∃ E, errI d L = E := ⟨_, rfl⟩
  obtain ⟨T, hT⟩ : ∃ T, outL d false L = T := ⟨_, rfl⟩
  have HE := Lib.hid hE; have HT := Lib.hid hT
  clear hE hT
  by_cases h0 : E = 0
  · subst h0
    obtain ⟨hcd, hck⟩ := err_ok.1 HE.out
    have hrt := (check_parts hck).2
    have hTc : T = cleanL d false L := by rw [← HT.out, out_ok HE.out]
    have hle : (txt T).length ≤ (txt L).length := by rw [hTc]; exact clean_txt_le d false hrt
    have heq : L.any (goneB d) = false → txt T = txt L := fun h => by
      rw [hTc]
      refine clean_txt_all d hrt fun x hx hk he => ?_
      have := List.any_eq_false.1 h x hx
      unfold goneB at this
      rw [hk, he] at this
      exact this rfl
    have hlw2 : Lw T := by rw [hTc]; exact HLW.out.clean hrt
    obtain ⟨qa, hqa⟩ : ∃ q, B (txt L) = q := ⟨_, rfl⟩
    obtain ⟨qt, hqt⟩ : ∃ q, B (txt T) = q := ⟨_, rfl⟩
    have hsz : qt.size ≤ qa.size := by rw [← hqa, ← hqt, size_B, size_B]; exact hle
    have hsame : L.any (goneB d) = false → qt = qa := fun h => by rw [← hqa, ← hqt, heq h]
    have HSZ := Lib.hid hsz; have HSM2 := Lib.hid hsame; have HW2 := Lib.hid hlw2; have HQA := Lib.hid hqa; have HQT := Lib.hid hqt
    clear hcd hck hrt hTc hle heq hlw2 hqa hqt hsz hsame
    have hlL : l1.length ≤ 40 := by have h1 := HLW.out.n; rw [← HLL.out, len_ros] at h1; exact h1
    go_upto_region 4 with (first
      | (show wpList _ _ _ (⟨_, Op.load 26 (.tmp 3), _, _, _, _⟩ :: _) _ _; refine wpList_load_mid rfl 26 (.tmp 3) rfl w.heap.size 0 rfl _ _ (HXF.out _ HRF.out) Try.underlying26 rfl Co.size_conf ?_)
      | (go_at_call 14; refine (rowsL _ (confV d (.slice A1 n1 c1) (.slice A2 n2 c2) (.slice A3 n3 c3) (.slice A4 n4 c4)) l1 L d false W W (HVF.out W HRF.out) HLL.out HLW.out (HCF.out W HRF.out) HSM.out _ _ HE.out HT.out HRF.out).mono ?_; rintro r a1 ⟨B1, j1, y1, rfl, hy1, hv1, hb1, hc1⟩; have HY1 := Lib.hid hy1; have HV1 := Lib.hid hv1; have HA1 := Lib.hid hb1; clear hy1 hv1 hb1 hc1)
      | fail)
    have hl1 : y1.length ≤ 40 := by have h1 := HW2.out.n; rw [← HY1.out, len_ros] at h1; exact h1
    go_upto_region 7 with (first
      | (go_at_call 25; refine (refText1 _ l1 (-1) a1 qa (HVF.out a1 HA1.out) (by omega) (by rw [HLL.out]; exact HLW.out.t) (by rw [HLL.out, txt_top]; exact HQA.out)).mono ?_; rintro r a2 ⟨rfl, hb⟩; have HA2 := Lib.hid (HA1.out.trans (hb.mono HA1.out.size)); have HV1 := Lib.hid (HV1.out.below hb); clear hb)
      | fail)
    obtain ⟨AW, cW, eW, hcW, hmW, hrW, hhW⟩ := HVW.out
    injection eW with eW1 _ eW3
    subst eW1 eW3
    have HRW := Lib.hid hrW
    clear hrW hhW
    unfold maxLen at hmW
    go_wp2
    go_loopw [8, 9] (fun gv iv wr => ∃ (k : Nat) (b : Bool), iv = .int .i64 k ∧ .bool b = gv ∧ k ≤ l1.length ∧ Hid (b = (L.take k).any (goneB d)) ∧ Below a2.heap.size a2 wr) (fun _ iv _ => l1.length - (intOf iv).toNat)
    case atStart => exact ⟨0, false, rfl, rfl, by omega, Lib.hid (by rw [List.take_zero]; rfl), Below.refl _ _⟩
    case round =>
      obtain ⟨k, b, rfl, rfl, hk, hb, hbel⟩ := hrel
      have hbW : Below W.heap.size W wr := HA2.out.trans (hbel.mono HA2.out.size)
      by_cases hp : k < l1.length
      · obtain ⟨b0, off, x, rfl, hb0, hdx, hxr, hxa, hxm⟩ := (HRW.out.below hbW).at_ k hp
        obtain ⟨⟨dep, kd, nm, dt, ats⟩, A, cc⟩ := x
        have hxL : (⟨dep, kd, nm, dt, ats⟩ : Ro) ∈ L := by rw [← HLL.out]; exact List.mem_map_of_mem hxm
        have hz := (HLW.out.z _ hxL).1
        have htk : L.take (k + 1) = L.take k ++ [⟨dep, kd, nm, dt, ats⟩] := by
          rw [← HLL.out, List.take_add_one]
          congr 1
          rw [ros, List.getElem?_map, getElem_of_drop hdx]
          rfl
        have hnx : (b || goneB d ⟨dep, kd, nm, dt, ats⟩) = (L.take (k + 1)).any (goneB d) := by
          rw [htk, List.any_append, ← hb.out]
          simp
        obtain ⟨f0, f1, f2, f3, f4⟩ := range5 hxr
        have hsz := hbW.size
        have HSF := Lib.hid (fun wx (hb' : Below wr.heap.size wr wx) => show (wx.cell? ⟨b0, off + k * 5 + 1, none⟩ = some (.int .i64 kd) ∧ wx.cell? ⟨b0, off + k * 5 + 2, none⟩ = some (.string nm) ∧ wx.cell? ⟨w.heap.size, 0, none⟩ = some (.bool d.allow) ∧ wx.cell? ⟨w.heap.size, 1, none⟩ = some (.bool d.attrsAllow) ∧ wx.cell? ⟨w.heap.size, 2, none⟩ = some (.slice A1 n1 c1) ∧ wx.cell? ⟨w.heap.size, 3, none⟩ = some (.slice A2 n2 c2) ∧ wx.cell? ⟨w.heap.size, 4, none⟩ = some (.slice A3 n3 c3) ∧ wx.cell? ⟨w.heap.size, 5, none⟩ = some (.slice A4 n4 c4) ∧ wx.cell? ⟨w.heap.size, 6, none⟩ = some (.bool d.comments) ∧ wx.cell? ⟨w.heap.size, 7, none⟩ = some (.bool d.dataAttrs)) from by
          obtain ⟨a0, a1, a2, a3, a4, a5, a6, a7⟩ := (show Co.Bx wx w.heap.size d (.slice A1 n1 c1) (.slice A2 n2 c2) (.slice A3 n3 c3) (.slice A4 n4 c4) from HXF.out wx (hbW.trans (hb'.mono hsz))).at_
          exact ⟨(hb'.cell (p := ⟨b0, _, none⟩) (show b0 < wr.heap.size by omega)).trans f1, (hb'.cell (p := ⟨b0, _, none⟩) (show b0 < wr.heap.size by omega)).trans f2, a0, a1, a2, a3, a4, a5, a6, a7⟩)
        obtain ⟨q, hq⟩ : ∃ q, elementN d nm = q := ⟨_, rfl⟩
        have HEL := Lib.hid (fun wx (hb' : Below wr.heap.size wr wx) => (Co.element1 (confV d (.slice A1 n1 c1) (.slice A2 n2 c2) (.slice A3 n3 c3) (.slice A4 n4 c4)) d nm wx q (HCF.out wx (hbW.trans (hb'.mono hsz))) HSM.out hq).mono fun r w' ⟨e, h⟩ => (show r = Ending.returned (.int .i64 q) ∧ Below wr.heap.size wr w' from ⟨e, hb'.trans (h.mono hb'.size)⟩))
        have HNX := Lib.hid hnx; have HBR := Lib.hid hbel; have HQ := Lib.hid hq; have HB := Lib.hid hb
        clear hdx hxr hxa hxm hxL hz htk hnx f0 f1 f2 f3 f4 hbel hq hb hbW
        cases b with
        | true =>
          have hgb : true = (L.take (k + 1)).any (goneB d) := by rw [← HNX.out]; rfl
          have HGB := Lib.hid hgb
          clear hgb
          go_upto_region 11 with (fail)
          go_wp2_with fail
          refine wp_region_noPanic ?_
          refine wp_region_held_drew (S := fun wx => (wx.cell? ⟨b0, off + k * 5 + 1, none⟩ = some (.int .i64 kd) ∧ wx.cell? ⟨b0, off + k * 5 + 2, none⟩ = some (.string nm) ∧ wx.cell? ⟨w.heap.size, 0, none⟩ = some (.bool d.allow) ∧ wx.cell? ⟨w.heap.size, 1, none⟩ = some (.bool d.attrsAllow) ∧ wx.cell? ⟨w.heap.size, 2, none⟩ = some (.slice A1 n1 c1) ∧ wx.cell? ⟨w.heap.size, 3, none⟩ = some (.slice A2 n2 c2) ∧ wx.cell? ⟨w.heap.size, 4, none⟩ = some (.slice A3 n3 c3) ∧ wx.cell? ⟨w.heap.size, 5, none⟩ = some (.slice A4 n4 c4) ∧ wx.cell? ⟨w.heap.size, 6, none⟩ = some (.bool d.comments) ∧ wx.cell? ⟨w.heap.size, 7, none⟩ = some (.bool d.dataAttrs))) (by kernel_rfl) ?_ (fun hHeld => ?_)
          · exact HSF.out _ (bel_eq12 (Below.refl _ wr) rfl rfl rfl rfl)
          refine wpAnyH_take (i := 0) (oi := _) (v := ?_) rfl (by kernel_rfl) (by kernel_rfl) (by kernel_rfl) (fun _ _ _ h => h) (Or.inl ⟨by rfl, ?_⟩) (by assumption) ?_
          rotate_left
          · intro w hSw; (try dsimp only at hSw); go_simp; all_goals with_reducible rfl
          try simp only [Act.put, List.getElem_toArray, List.getElem_cons_zero, List.getElem_cons_succ, List.setIfInBounds_toArray, List.set_cons_zero, List.set_cons_succ]
          refine wpAnyH_take (i := 1) (oi := _) (v := ?_) rfl (by kernel_rfl) (by kernel_rfl) (by kernel_rfl) (fun _ _ _ h => h) (Or.inl ⟨by rfl, ?_⟩) (by assumption) ?_
          rotate_left
          · intro w hSw; (try dsimp only at hSw); go_simp; all_goals with_reducible rfl
          try simp only [Act.put, List.getElem_toArray, List.getElem_cons_zero, List.getElem_cons_succ, List.setIfInBounds_toArray, List.set_cons_zero, List.set_cons_succ]
          refine wpAnyH_take (i := 2) (oi := _) (v := undef) rfl (by kernel_rfl) (by kernel_rfl) (by kernel_rfl) (fun _ _ _ h => h) (Or.inr ⟨by rfl, rfl⟩) (by assumption) ?_
          try simp only [Act.put, List.getElem_toArray, List.getElem_cons_zero, List.getElem_cons_succ, List.setIfInBounds_toArray, List.set_cons_zero, List.set_cons_succ]
          refine wpAnyH_take (i := 3) (oi := _) (v := undef) rfl (by kernel_rfl) (by kernel_rfl) (by kernel_rfl) (fun _ _ _ h => h) (Or.inr ⟨by rfl, rfl⟩) (by assumption) ?_
          try simp only [Act.put, List.getElem_toArray, List.getElem_cons_zero, List.getElem_cons_succ, List.setIfInBounds_toArray, List.set_cons_zero, List.set_cons_succ]
          refine wpAnyH_take (i := 4) (oi := _) (v := undef) rfl (by kernel_rfl) (by kernel_rfl) (by kernel_rfl) (fun _ _ _ h => h) (Or.inr ⟨by rfl, rfl⟩) (by assumption) ?_
          try simp only [Act.put, List.getElem_toArray, List.getElem_cons_zero, List.getElem_cons_succ, List.setIfInBounds_toArray, List.set_cons_zero, List.set_cons_succ]
          refine wpAnyH_take (i := 5) (oi := _) (v := undef) rfl (by kernel_rfl) (by kernel_rfl) (by kernel_rfl) (fun _ _ _ h => h) (Or.inr ⟨by rfl, rfl⟩) (by assumption) ?_
          try simp only [Act.put, List.getElem_toArray, List.getElem_cons_zero, List.getElem_cons_succ, List.setIfInBounds_toArray, List.set_cons_zero, List.set_cons_succ]
          refine wpAnyH_take (i := 6) (oi := _) (v := undef) rfl (by kernel_rfl) (by kernel_rfl) (by kernel_rfl) (fun _ _ _ h => h) (Or.inr ⟨by rfl, rfl⟩) (by assumption) ?_
          try simp only [Act.put, List.getElem_toArray, List.getElem_cons_zero, List.getElem_cons_succ, List.setIfInBounds_toArray, List.set_cons_zero, List.set_cons_succ]
          refine wpAnyH_take (i := 7) (oi := _) (v := undef) rfl (by kernel_rfl) (by kernel_rfl) (by kernel_rfl) (fun _ _ _ h => h) (Or.inr ⟨by rfl, rfl⟩) (by assumption) ?_
          try simp only [Act.put, List.getElem_toArray, List.getElem_cons_zero, List.getElem_cons_succ, List.setIfInBounds_toArray, List.set_cons_zero, List.set_cons_succ]
          refine wpAnyH_take (i := 8) (oi := _) (v := undef) rfl (by kernel_rfl) (by kernel_rfl) (by kernel_rfl) (fun _ _ _ h => h) (Or.inr ⟨by rfl, rfl⟩) (by assumption) ?_
          try simp only [Act.put, List.getElem_toArray, List.getElem_cons_zero, List.getElem_cons_succ, List.setIfInBounds_toArray, List.set_cons_zero, List.set_cons_succ]
          refine wpAnyH_take (i := 9) (oi := _) (v := undef) rfl (by kernel_rfl) (by kernel_rfl) (by kernel_rfl) (fun _ _ _ h => h) (Or.inr ⟨by rfl, rfl⟩) (by assumption) ?_
          try simp only [Act.put, List.getElem_toArray, List.getElem_cons_zero, List.getElem_cons_succ, List.setIfInBounds_toArray, List.set_cons_zero, List.set_cons_succ]
          refine wpAnyH_take (i := 10) (oi := _) (v := undef) rfl (by kernel_rfl) (by kernel_rfl) (by kernel_rfl) (fun _ _ _ h => h) (Or.inr ⟨by rfl, rfl⟩) (by assumption) ?_
          try simp only [Act.put, List.getElem_toArray, List.getElem_cons_zero, List.getElem_cons_succ, List.setIfInBounds_toArray, List.set_cons_zero, List.set_cons_succ]
          refine wpAnyH_take (i := 11) (oi := _) (v := undef) rfl (by kernel_rfl) (by kernel_rfl) (by kernel_rfl) (fun _ _ _ h => h) (Or.inr ⟨by rfl, rfl⟩) (by assumption) ?_
          try simp only [Act.put, List.getElem_toArray, List.getElem_cons_zero, List.getElem_cons_succ, List.setIfInBounds_toArray, List.set_cons_zero, List.set_cons_succ]
          refine wpAnyH_take (i := 12) (oi := _) (v := undef) rfl (by kernel_rfl) (by kernel_rfl) (by kernel_rfl) (fun _ _ _ h => h) (Or.inr ⟨by rfl, rfl⟩) (by assumption) ?_
          try simp only [Act.put, List.getElem_toArray, List.getElem_cons_zero, List.getElem_cons_succ, List.setIfInBounds_toArray, List.set_cons_zero, List.set_cons_succ]
          refine wpAnyH_take (i := 13) (oi := _) (v := undef) rfl (by kernel_rfl) (by kernel_rfl) (by kernel_rfl) (fun _ _ _ h => h) (Or.inr ⟨by rfl, rfl⟩) (by assumption) ?_
          try simp only [Act.put, List.getElem_toArray, List.getElem_cons_zero, List.getElem_cons_succ, List.setIfInBounds_toArray, List.set_cons_zero, List.set_cons_succ]
          refine wpAnyH_take (i := 14) (oi := _) (v := undef) rfl (by kernel_rfl) (by kernel_rfl) (by kernel_rfl) (fun _ _ _ h => h) (Or.inr ⟨by rfl, rfl⟩) (by assumption) ?_
          try simp only [Act.put, List.getElem_toArray, List.getElem_cons_zero, List.getElem_cons_succ, List.setIfInBounds_toArray, List.set_cons_zero, List.set_cons_succ]
          refine wpAnyH_take (i := 15) (oi := _) (v := undef) rfl (by kernel_rfl) (by kernel_rfl) (by kernel_rfl) (fun _ _ _ h => h) (Or.inr ⟨by rfl, rfl⟩) (by assumption) ?_
          try simp only [Act.put, List.getElem_toArray, List.getElem_cons_zero, List.getElem_cons_succ, List.setIfInBounds_toArray, List.set_cons_zero, List.set_cons_succ]
          refine wpAnyH_take (i := 16) (oi := _) (v := undef) rfl (by kernel_rfl) (by kernel_rfl) (by kernel_rfl) (fun _ _ _ h => h) (Or.inr ⟨by rfl, rfl⟩) (by assumption) ?_
          try simp only [Act.put, List.getElem_toArray, List.getElem_cons_zero, List.getElem_cons_succ, List.setIfInBounds_toArray, List.set_cons_zero, List.set_cons_succ]
          refine wpAnyH_take (i := 17) (oi := _) (v := undef) rfl (by kernel_rfl) (by kernel_rfl) (by kernel_rfl) (fun _ _ _ h => h) (Or.inr ⟨by rfl, rfl⟩) (by assumption) ?_
          try simp only [Act.put, List.getElem_toArray, List.getElem_cons_zero, List.getElem_cons_succ, List.setIfInBounds_toArray, List.set_cons_zero, List.set_cons_succ]
          refine wpAnyH_take (i := 18) (oi := _) (v := ?_) rfl (by kernel_rfl) (by kernel_rfl) (by kernel_rfl) (fun _ _ _ h => h) (Or.inl ⟨by rfl, ?_⟩) (by assumption) ?_
          rotate_left
          · intro w hSw; (try dsimp only at hSw); go_simp; all_goals with_reducible rfl
          try simp only [Act.put, List.getElem_toArray, List.getElem_cons_zero, List.getElem_cons_succ, List.setIfInBounds_toArray, List.set_cons_zero, List.set_cons_succ]
          refine wpAnyH_take (i := 19) (oi := _) (v := ?_) rfl (by kernel_rfl) (by kernel_rfl) (by kernel_rfl) (fun _ _ _ h => h) (Or.inl ⟨by rfl, ?_⟩) (by assumption) ?_
          rotate_left
          · intro w hSw; (try dsimp only at hSw); go_simp; all_goals with_reducible rfl
          try simp only [Act.put, List.getElem_toArray, List.getElem_cons_zero, List.getElem_cons_succ, List.setIfInBounds_toArray, List.set_cons_zero, List.set_cons_succ]
          refine wpAnyH_done (by kernel_rfl) ?_ _
          refine NoPanic.normal ?_
          go_wp2
          go_roundw
          case rel => exact ⟨k + 1, true, by go_num, rfl, by omega, Lib.hid HGB.out, HBR.out.trans (((bel_eq12 (Below.refl _ wr) rfl rfl rfl rfl : Below wr.heap.size wr wr.drew)).mono HBR.out.size)⟩
          case measure => simp [intOf]; omega
        | false =>
          by_cases hk0 : kd = 0
          · subst hk0
            by_cases hq1 : q = 1
            · have hqb : ((q : Int) == 1) = true := by rw [hq1]; rfl
              have HGB : Hid (true = (L.take (k + 1)).any (goneB d)) := Lib.hid (by rw [← HNX.out]; unfold goneB; rw [HQ.out, hq1]; rfl)
              clear hq1
              go_upto_region 11 with (fail)
              go_wp2_with fail
              refine wp_region_noPanic ?_
              refine wp_region_held_drew (S := fun wx => (wx.cell? ⟨b0, off + k * 5 + 1, none⟩ = some (.int .i64 0) ∧ wx.cell? ⟨b0, off + k * 5 + 2, none⟩ = some (.string nm) ∧ wx.cell? ⟨w.heap.size, 0, none⟩ = some (.bool d.allow) ∧ wx.cell? ⟨w.heap.size, 1, none⟩ = some (.bool d.attrsAllow) ∧ wx.cell? ⟨w.heap.size, 2, none⟩ = some (.slice A1 n1 c1) ∧ wx.cell? ⟨w.heap.size, 3, none⟩ = some (.slice A2 n2 c2) ∧ wx.cell? ⟨w.heap.size, 4, none⟩ = some (.slice A3 n3 c3) ∧ wx.cell? ⟨w.heap.size, 5, none⟩ = some (.slice A4 n4 c4) ∧ wx.cell? ⟨w.heap.size, 6, none⟩ = some (.bool d.comments) ∧ wx.cell? ⟨w.heap.size, 7, none⟩ = some (.bool d.dataAttrs))) (by kernel_rfl) ?_ (fun hHeld => ?_)
              · exact HSF.out _ (bel_eq12 (Below.refl _ wr) rfl rfl rfl rfl)
              refine wpAnyH_take (i := 0) (oi := _) (v := ?_) rfl (by kernel_rfl) (by kernel_rfl) (by kernel_rfl) (fun _ _ _ h => h) (Or.inl ⟨by rfl, ?_⟩) (by assumption) ?_
              rotate_left
              · intro w hSw; (try dsimp only at hSw); go_simp; all_goals with_reducible rfl
              try simp only [Act.put, List.getElem_toArray, List.getElem_cons_zero, List.getElem_cons_succ, List.setIfInBounds_toArray, List.set_cons_zero, List.set_cons_succ]
              refine wpAnyH_take (i := 1) (oi := _) (v := ?_) rfl (by kernel_rfl) (by kernel_rfl) (by kernel_rfl) (fun _ _ _ h => h) (Or.inl ⟨by rfl, ?_⟩) (by assumption) ?_
              rotate_left
              · intro w hSw; (try dsimp only at hSw); go_simp; all_goals with_reducible rfl
              try simp only [Act.put, List.getElem_toArray, List.getElem_cons_zero, List.getElem_cons_succ, List.setIfInBounds_toArray, List.set_cons_zero, List.set_cons_succ]
              refine wpAnyH_take (i := 2) (oi := _) (v := ?_) rfl (by kernel_rfl) (by kernel_rfl) (by kernel_rfl) (fun _ _ _ h => h) (Or.inl ⟨by rfl, ?_⟩) (by assumption) ?_
              rotate_left
              · intro w hSw; (try dsimp only at hSw); go_simp; all_goals with_reducible rfl
              try simp only [Act.put, List.getElem_toArray, List.getElem_cons_zero, List.getElem_cons_succ, List.setIfInBounds_toArray, List.set_cons_zero, List.set_cons_succ]
              refine wpAnyH_take (i := 3) (oi := _) (v := ?_) rfl (by kernel_rfl) (by kernel_rfl) (by kernel_rfl) (fun _ _ _ h => h) (Or.inl ⟨by rfl, ?_⟩) (by assumption) ?_
              rotate_left
              · intro w hSw; (try dsimp only at hSw); go_simp; all_goals with_reducible rfl
              try simp only [Act.put, List.getElem_toArray, List.getElem_cons_zero, List.getElem_cons_succ, List.setIfInBounds_toArray, List.set_cons_zero, List.set_cons_succ]
              refine wpAnyH_take (i := 4) (oi := _) (v := ?_) rfl (by kernel_rfl) (by kernel_rfl) (by kernel_rfl) (fun _ _ _ h => h) (Or.inl ⟨by rfl, ?_⟩) (by assumption) ?_
              rotate_left
              · intro w hSw; (try dsimp only at hSw); go_simp; all_goals with_reducible rfl
              try simp only [Act.put, List.getElem_toArray, List.getElem_cons_zero, List.getElem_cons_succ, List.setIfInBounds_toArray, List.set_cons_zero, List.set_cons_succ]
              refine wpAnyH_take (i := 5) (oi := _) (v := ?_) rfl (by kernel_rfl) (by kernel_rfl) (by kernel_rfl) (fun _ _ _ h => h) (Or.inl ⟨by rfl, ?_⟩) (by assumption) ?_
              rotate_left
              · intro w hSw; (try dsimp only at hSw); go_simp; all_goals with_reducible rfl
              try simp only [Act.put, List.getElem_toArray, List.getElem_cons_zero, List.getElem_cons_succ, List.setIfInBounds_toArray, List.set_cons_zero, List.set_cons_succ]
              refine wpAnyH_take (i := 6) (oi := _) (v := ?_) rfl (by kernel_rfl) (by kernel_rfl) (by kernel_rfl) (fun _ _ _ h => h) (Or.inl ⟨by rfl, ?_⟩) (by assumption) ?_
              rotate_left
              · intro w hSw; (try dsimp only at hSw); go_simp; all_goals with_reducible rfl
              try simp only [Act.put, List.getElem_toArray, List.getElem_cons_zero, List.getElem_cons_succ, List.setIfInBounds_toArray, List.set_cons_zero, List.set_cons_succ]
              refine wpAnyH_take (i := 7) (oi := _) (v := ?_) rfl (by kernel_rfl) (by kernel_rfl) (by kernel_rfl) (fun _ _ _ h => h) (Or.inl ⟨by rfl, ?_⟩) (by assumption) ?_
              rotate_left
              · intro w hSw; (try dsimp only at hSw); go_simp; all_goals with_reducible rfl
              try simp only [Act.put, List.getElem_toArray, List.getElem_cons_zero, List.getElem_cons_succ, List.setIfInBounds_toArray, List.set_cons_zero, List.set_cons_succ]
              refine wpAnyH_take (i := 8) (oi := _) (v := ?_) rfl (by kernel_rfl) (by kernel_rfl) (by kernel_rfl) (fun _ _ _ h => h) (Or.inl ⟨by rfl, ?_⟩) (by assumption) ?_
              rotate_left
              · intro w hSw; (try dsimp only at hSw); go_simp; all_goals with_reducible rfl
              try simp only [Act.put, List.getElem_toArray, List.getElem_cons_zero, List.getElem_cons_succ, List.setIfInBounds_toArray, List.set_cons_zero, List.set_cons_succ]
              refine wpAnyH_take (i := 9) (oi := _) (v := ?_) rfl (by kernel_rfl) (by kernel_rfl) (by kernel_rfl) (fun _ _ _ h => h) (Or.inl ⟨by rfl, ?_⟩) (by assumption) ?_
              rotate_left
              · intro w hSw; (try dsimp only at hSw); go_simp; all_goals with_reducible rfl
              try simp only [Act.put, List.getElem_toArray, List.getElem_cons_zero, List.getElem_cons_succ, List.setIfInBounds_toArray, List.set_cons_zero, List.set_cons_succ]
              refine wpAnyH_take (i := 10) (oi := _) (v := ?_) rfl (by kernel_rfl) (by kernel_rfl) (by kernel_rfl) (fun _ _ _ h => h) (Or.inl ⟨by rfl, ?_⟩) (by assumption) ?_
              rotate_left
              · intro w hSw; (try dsimp only at hSw); go_simp; all_goals with_reducible rfl
              try simp only [Act.put, List.getElem_toArray, List.getElem_cons_zero, List.getElem_cons_succ, List.setIfInBounds_toArray, List.set_cons_zero, List.set_cons_succ]
              refine wpAnyH_take (i := 11) (oi := _) (v := ?_) rfl (by kernel_rfl) (by kernel_rfl) (by kernel_rfl) (fun _ _ _ h => h) (Or.inl ⟨by rfl, ?_⟩) (by assumption) ?_
              rotate_left
              · intro w hSw; (try dsimp only at hSw); go_simp; all_goals with_reducible rfl
              try simp only [Act.put, List.getElem_toArray, List.getElem_cons_zero, List.getElem_cons_succ, List.setIfInBounds_toArray, List.set_cons_zero, List.set_cons_succ]
              refine wpAnyH_take (i := 12) (oi := _) (v := ?_) rfl (by kernel_rfl) (by kernel_rfl) (by kernel_rfl) (fun _ _ _ h => h) (Or.inl ⟨by rfl, ?_⟩) (by assumption) ?_
              rotate_left
              · intro w hSw; (try dsimp only at hSw); go_simp; all_goals with_reducible rfl
              try simp only [Act.put, List.getElem_toArray, List.getElem_cons_zero, List.getElem_cons_succ, List.setIfInBounds_toArray, List.set_cons_zero, List.set_cons_succ]
              refine wpAnyH_take (i := 13) (oi := _) (v := ?_) rfl (by kernel_rfl) (by kernel_rfl) (by kernel_rfl) (fun _ _ _ h => h) (Or.inl ⟨by rfl, ?_⟩) (by assumption) ?_
              rotate_left
              · intro w hSw; (try dsimp only at hSw); go_simp; all_goals with_reducible rfl
              try simp only [Act.put, List.getElem_toArray, List.getElem_cons_zero, List.getElem_cons_succ, List.setIfInBounds_toArray, List.set_cons_zero, List.set_cons_succ]
              refine wpAnyH_take (i := 14) (oi := _) (v := ?_) rfl (by kernel_rfl) (by kernel_rfl) (by kernel_rfl) (fun _ _ _ h => h) (Or.inl ⟨by rfl, ?_⟩) (by assumption) ?_
              rotate_left
              · intro w hSw; (try dsimp only at hSw); go_simp; all_goals with_reducible rfl
              try simp only [Act.put, List.getElem_toArray, List.getElem_cons_zero, List.getElem_cons_succ, List.setIfInBounds_toArray, List.set_cons_zero, List.set_cons_succ]
              refine wpAnyH_ready (rs := [15]) (by kernel_rfl) (by simp) ?_
              refine AllReadyH.cons (o := _) rfl (fun K hK => ?_) AllReadyH.nil
              go_simp
              go_at_call 26
              refine (HEL.out _ (by exact bel_eq12 (Below.refl _ wr) rfl rfl rfl rfl)).mono ?_
              rintro r x1 ⟨rfl, hbx⟩
              have HBX := Lib.hid hbx
              clear hbx
              go_wp2_with fail
              refine hK.out _ _ ?_ (fun hHeld => ?_)
              · exact HSF.out _ (bel_eq12 HBX.out rfl rfl rfl rfl)
              clear hK K
              try simp only [Act.put, List.getElem_toArray, List.getElem_cons_zero, List.getElem_cons_succ, List.setIfInBounds_toArray, List.set_cons_zero, List.set_cons_succ]
              refine wpAnyH_take (i := 16) (oi := _) (v := ?_) rfl (by kernel_rfl) (by kernel_rfl) (by kernel_rfl) (fun _ _ _ h => h) (Or.inl ⟨by rfl, ?_⟩) (by assumption) ?_
              rotate_left
              · intro w hSw; (try dsimp only at hSw); go_simp; all_goals with_reducible rfl
              try simp only [Act.put, List.getElem_toArray, List.getElem_cons_zero, List.getElem_cons_succ, List.setIfInBounds_toArray, List.set_cons_zero, List.set_cons_succ]
              refine wpAnyH_take (i := 17) (oi := _) (v := ?_) rfl (by kernel_rfl) (by kernel_rfl) (by kernel_rfl) (fun _ _ _ h => h) (Or.inl ⟨by rfl, ?_⟩) (by assumption) ?_
              rotate_left
              · intro w hSw; (try dsimp only at hSw); go_simp; all_goals with_reducible rfl
              try simp only [Act.put, List.getElem_toArray, List.getElem_cons_zero, List.getElem_cons_succ, List.setIfInBounds_toArray, List.set_cons_zero, List.set_cons_succ]
              refine wpAnyH_take (i := 18) (oi := _) (v := ?_) rfl (by kernel_rfl) (by kernel_rfl) (by kernel_rfl) (fun _ _ _ h => h) (Or.inl ⟨by rfl, ?_⟩) (by assumption) ?_
              rotate_left
              · intro w hSw; (try dsimp only at hSw); go_simp; all_goals with_reducible rfl
              try simp only [Act.put, List.getElem_toArray, List.getElem_cons_zero, List.getElem_cons_succ, List.setIfInBounds_toArray, List.set_cons_zero, List.set_cons_succ]
              refine wpAnyH_take (i := 19) (oi := _) (v := ?_) rfl (by kernel_rfl) (by kernel_rfl) (by kernel_rfl) (fun _ _ _ h => h) (Or.inl ⟨by rfl, ?_⟩) (by assumption) ?_
              rotate_left
              · intro w hSw; (try dsimp only at hSw); go_simp; all_goals with_reducible rfl
              try simp only [Act.put, List.getElem_toArray, List.getElem_cons_zero, List.getElem_cons_succ, List.setIfInBounds_toArray, List.set_cons_zero, List.set_cons_succ]
              refine wpAnyH_done (by kernel_rfl) ?_ _
              refine NoPanic.normal ?_
              go_wp2
              go_roundw
              case rel => exact ⟨k + 1, true, by go_num, rfl, by omega, Lib.hid HGB.out, HBR.out.trans ((HBX.out).mono HBR.out.size)⟩
              case measure => simp [intOf]; omega
            · have hqb : ((q : Int) == 1) = false := by simp; omega
              have HGB : Hid (false = (L.take (k + 1)).any (goneB d)) := Lib.hid (by rw [← HNX.out]; unfold goneB; rw [HQ.out]; simp [hq1])
              clear hq1
              go_upto_region 11 with (fail)
              go_wp2_with fail
              refine wp_region_noPanic ?_
              refine wp_region_held_drew (S := fun wx => (wx.cell? ⟨b0, off + k * 5 + 1, none⟩ = some (.int .i64 0) ∧ wx.cell? ⟨b0, off + k * 5 + 2, none⟩ = some (.string nm) ∧ wx.cell? ⟨w.heap.size, 0, none⟩ = some (.bool d.allow) ∧ wx.cell? ⟨w.heap.size, 1, none⟩ = some (.bool d.attrsAllow) ∧ wx.cell? ⟨w.heap.size, 2, none⟩ = some (.slice A1 n1 c1) ∧ wx.cell? ⟨w.heap.size, 3, none⟩ = some (.slice A2 n2 c2) ∧ wx.cell? ⟨w.heap.size, 4, none⟩ = some (.slice A3 n3 c3) ∧ wx.cell? ⟨w.heap.size, 5, none⟩ = some (.slice A4 n4 c4) ∧ wx.cell? ⟨w.heap.size, 6, none⟩ = some (.bool d.comments) ∧ wx.cell? ⟨w.heap.size, 7, none⟩ = some (.bool d.dataAttrs))) (by kernel_rfl) ?_ (fun hHeld => ?_)
              · exact HSF.out _ (bel_eq12 (Below.refl _ wr) rfl rfl rfl rfl)
              refine wpAnyH_take (i := 0) (oi := _) (v := ?_) rfl (by kernel_rfl) (by kernel_rfl) (by kernel_rfl) (fun _ _ _ h => h) (Or.inl ⟨by rfl, ?_⟩) (by assumption) ?_
              rotate_left
              · intro w hSw; (try dsimp only at hSw); go_simp; all_goals with_reducible rfl
              try simp only [Act.put, List.getElem_toArray, List.getElem_cons_zero, List.getElem_cons_succ, List.setIfInBounds_toArray, List.set_cons_zero, List.set_cons_succ]
              refine wpAnyH_take (i := 1) (oi := _) (v := ?_) rfl (by kernel_rfl) (by kernel_rfl) (by kernel_rfl) (fun _ _ _ h => h) (Or.inl ⟨by rfl, ?_⟩) (by assumption) ?_
              rotate_left
              · intro w hSw; (try dsimp only at hSw); go_simp; all_goals with_reducible rfl
              try simp only [Act.put, List.getElem_toArray, List.getElem_cons_zero, List.getElem_cons_succ, List.setIfInBounds_toArray, List.set_cons_zero, List.set_cons_succ]
              refine wpAnyH_take (i := 2) (oi := _) (v := ?_) rfl (by kernel_rfl) (by kernel_rfl) (by kernel_rfl) (fun _ _ _ h => h) (Or.inl ⟨by rfl, ?_⟩) (by assumption) ?_
              rotate_left
              · intro w hSw; (try dsimp only at hSw); go_simp; all_goals with_reducible rfl
              try simp only [Act.put, List.getElem_toArray, List.getElem_cons_zero, List.getElem_cons_succ, List.setIfInBounds_toArray, List.set_cons_zero, List.set_cons_succ]
              refine wpAnyH_take (i := 3) (oi := _) (v := ?_) rfl (by kernel_rfl) (by kernel_rfl) (by kernel_rfl) (fun _ _ _ h => h) (Or.inl ⟨by rfl, ?_⟩) (by assumption) ?_
              rotate_left
              · intro w hSw; (try dsimp only at hSw); go_simp; all_goals with_reducible rfl
              try simp only [Act.put, List.getElem_toArray, List.getElem_cons_zero, List.getElem_cons_succ, List.setIfInBounds_toArray, List.set_cons_zero, List.set_cons_succ]
              refine wpAnyH_take (i := 4) (oi := _) (v := ?_) rfl (by kernel_rfl) (by kernel_rfl) (by kernel_rfl) (fun _ _ _ h => h) (Or.inl ⟨by rfl, ?_⟩) (by assumption) ?_
              rotate_left
              · intro w hSw; (try dsimp only at hSw); go_simp; all_goals with_reducible rfl
              try simp only [Act.put, List.getElem_toArray, List.getElem_cons_zero, List.getElem_cons_succ, List.setIfInBounds_toArray, List.set_cons_zero, List.set_cons_succ]
              refine wpAnyH_take (i := 5) (oi := _) (v := ?_) rfl (by kernel_rfl) (by kernel_rfl) (by kernel_rfl) (fun _ _ _ h => h) (Or.inl ⟨by rfl, ?_⟩) (by assumption) ?_
              rotate_left
              · intro w hSw; (try dsimp only at hSw); go_simp; all_goals with_reducible rfl
              try simp only [Act.put, List.getElem_toArray, List.getElem_cons_zero, List.getElem_cons_succ, List.setIfInBounds_toArray, List.set_cons_zero, List.set_cons_succ]
              refine wpAnyH_take (i := 6) (oi := _) (v := ?_) rfl (by kernel_rfl) (by kernel_rfl) (by kernel_rfl) (fun _ _ _ h => h) (Or.inl ⟨by rfl, ?_⟩) (by assumption) ?_
              rotate_left
              · intro w hSw; (try dsimp only at hSw); go_simp; all_goals with_reducible rfl
              try simp only [Act.put, List.getElem_toArray, List.getElem_cons_zero, List.getElem_cons_succ, List.setIfInBounds_toArray, List.set_cons_zero, List.set_cons_succ]
              refine wpAnyH_take (i := 7) (oi := _) (v := ?_) rfl (by kernel_rfl) (by kernel_rfl) (by kernel_rfl) (fun _ _ _ h => h) (Or.inl ⟨by rfl, ?_⟩) (by assumption) ?_
              rotate_left
              · intro w hSw; (try dsimp only at hSw); go_simp; all_goals with_reducible rfl
              try simp only [Act.put, List.getElem_toArray, List.getElem_cons_zero, List.getElem_cons_succ, List.setIfInBounds_toArray, List.set_cons_zero, List.set_cons_succ]
              refine wpAnyH_take (i := 8) (oi := _) (v := ?_) rfl (by kernel_rfl) (by kernel_rfl) (by kernel_rfl) (fun _ _ _ h => h) (Or.inl ⟨by rfl, ?_⟩) (by assumption) ?_
              rotate_left
              · intro w hSw; (try dsimp only at hSw); go_simp; all_goals with_reducible rfl
              try simp only [Act.put, List.getElem_toArray, List.getElem_cons_zero, List.getElem_cons_succ, List.setIfInBounds_toArray, List.set_cons_zero, List.set_cons_succ]
              refine wpAnyH_take (i := 9) (oi := _) (v := ?_) rfl (by kernel_rfl) (by kernel_rfl) (by kernel_rfl) (fun _ _ _ h => h) (Or.inl ⟨by rfl, ?_⟩) (by assumption) ?_
              rotate_left
              · intro w hSw; (try dsimp only at hSw); go_simp; all_goals with_reducible rfl
              try simp only [Act.put, List.getElem_toArray, List.getElem_cons_zero, List.getElem_cons_succ, List.setIfInBounds_toArray, List.set_cons_zero, List.set_cons_succ]
              refine wpAnyH_take (i := 10) (oi := _) (v := ?_) rfl (by kernel_rfl) (by kernel_rfl) (by kernel_rfl) (fun _ _ _ h => h) (Or.inl ⟨by rfl, ?_⟩) (by assumption) ?_
              rotate_left
              · intro w hSw; (try dsimp only at hSw); go_simp; all_goals with_reducible rfl
              try simp only [Act.put, List.getElem_toArray, List.getElem_cons_zero, List.getElem_cons_succ, List.setIfInBounds_toArray, List.set_cons_zero, List.set_cons_succ]
              refine wpAnyH_take (i := 11) (oi := _) (v := ?_) rfl (by kernel_rfl) (by kernel_rfl) (by kernel_rfl) (fun _ _ _ h => h) (Or.inl ⟨by rfl, ?_⟩) (by assumption) ?_
              rotate_left
              · intro w hSw; (try dsimp only at hSw); go_simp; all_goals with_reducible rfl
              try simp only [Act.put, List.getElem_toArray, List.getElem_cons_zero, List.getElem_cons_succ, List.setIfInBounds_toArray, List.set_cons_zero, List.set_cons_succ]
              refine wpAnyH_take (i := 12) (oi := _) (v := ?_) rfl (by kernel_rfl) (by kernel_rfl) (by kernel_rfl) (fun _ _ _ h => h) (Or.inl ⟨by rfl, ?_⟩) (by assumption) ?_
              rotate_left
              · intro w hSw; (try dsimp only at hSw); go_simp; all_goals with_reducible rfl
              try simp only [Act.put, List.getElem_toArray, List.getElem_cons_zero, List.getElem_cons_succ, List.setIfInBounds_toArray, List.set_cons_zero, List.set_cons_succ]
              refine wpAnyH_take (i := 13) (oi := _) (v := ?_) rfl (by kernel_rfl) (by kernel_rfl) (by kernel_rfl) (fun _ _ _ h => h) (Or.inl ⟨by rfl, ?_⟩) (by assumption) ?_
              rotate_left
              · intro w hSw; (try dsimp only at hSw); go_simp; all_goals with_reducible rfl
              try simp only [Act.put, List.getElem_toArray, List.getElem_cons_zero, List.getElem_cons_succ, List.setIfInBounds_toArray, List.set_cons_zero, List.set_cons_succ]
              refine wpAnyH_take (i := 14) (oi := _) (v := ?_) rfl (by kernel_rfl) (by kernel_rfl) (by kernel_rfl) (fun _ _ _ h => h) (Or.inl ⟨by rfl, ?_⟩) (by assumption) ?_
              rotate_left
              · intro w hSw; (try dsimp only at hSw); go_simp; all_goals with_reducible rfl
              try simp only [Act.put, List.getElem_toArray, List.getElem_cons_zero, List.getElem_cons_succ, List.setIfInBounds_toArray, List.set_cons_zero, List.set_cons_succ]
              refine wpAnyH_ready (rs := [15]) (by kernel_rfl) (by simp) ?_
              refine AllReadyH.cons (o := _) rfl (fun K hK => ?_) AllReadyH.nil
              go_simp
              go_at_call 26
              refine (HEL.out _ (by exact bel_eq12 (Below.refl _ wr) rfl rfl rfl rfl)).mono ?_
              rintro r x1 ⟨rfl, hbx⟩
              have HBX := Lib.hid hbx
              clear hbx
              go_wp2_with fail
              refine hK.out _ _ ?_ (fun hHeld => ?_)
              · exact HSF.out _ (bel_eq12 HBX.out rfl rfl rfl rfl)
              clear hK K
              try simp only [Act.put, List.getElem_toArray, List.getElem_cons_zero, List.getElem_cons_succ, List.setIfInBounds_toArray, List.set_cons_zero, List.set_cons_succ]
              refine wpAnyH_take (i := 16) (oi := _) (v := ?_) rfl (by kernel_rfl) (by kernel_rfl) (by kernel_rfl) (fun _ _ _ h => h) (Or.inl ⟨by rfl, ?_⟩) (by assumption) ?_
              rotate_left
              · intro w hSw; (try dsimp only at hSw); go_simp; all_goals with_reducible rfl
              try simp only [Act.put, List.getElem_toArray, List.getElem_cons_zero, List.getElem_cons_succ, List.setIfInBounds_toArray, List.set_cons_zero, List.set_cons_succ]
              refine wpAnyH_take (i := 17) (oi := _) (v := ?_) rfl (by kernel_rfl) (by kernel_rfl) (by kernel_rfl) (fun _ _ _ h => h) (Or.inl ⟨by rfl, ?_⟩) (by assumption) ?_
              rotate_left
              · intro w hSw; (try dsimp only at hSw); go_simp; all_goals with_reducible rfl
              try simp only [Act.put, List.getElem_toArray, List.getElem_cons_zero, List.getElem_cons_succ, List.setIfInBounds_toArray, List.set_cons_zero, List.set_cons_succ]
              refine wpAnyH_take (i := 18) (oi := _) (v := ?_) rfl (by kernel_rfl) (by kernel_rfl) (by kernel_rfl) (fun _ _ _ h => h) (Or.inl ⟨by rfl, ?_⟩) (by assumption) ?_
              rotate_left
              · intro w hSw; (try dsimp only at hSw); go_simp; all_goals with_reducible rfl
              try simp only [Act.put, List.getElem_toArray, List.getElem_cons_zero, List.getElem_cons_succ, List.setIfInBounds_toArray, List.set_cons_zero, List.set_cons_succ]
              refine wpAnyH_take (i := 19) (oi := _) (v := ?_) rfl (by kernel_rfl) (by kernel_rfl) (by kernel_rfl) (fun _ _ _ h => h) (Or.inl ⟨by rfl, ?_⟩) (by assumption) ?_
              rotate_left
              · intro w hSw; (try dsimp only at hSw); go_simp; all_goals with_reducible rfl
              try simp only [Act.put, List.getElem_toArray, List.getElem_cons_zero, List.getElem_cons_succ, List.setIfInBounds_toArray, List.set_cons_zero, List.set_cons_succ]
              refine wpAnyH_done (by kernel_rfl) ?_ _
              refine NoPanic.normal ?_
              go_wp2
              go_roundw
              case rel => exact ⟨k + 1, false, by go_num, rfl, by omega, Lib.hid HGB.out, HBR.out.trans ((HBX.out).mono HBR.out.size)⟩
              case measure => simp [intOf]; omega
          · have hkb : (kd == 0) = false := by simpa using hk0
            have HGB : Hid (false = (L.take (k + 1)).any (goneB d)) := Lib.hid (by rw [← HNX.out]; unfold goneB; simp [hk0])
            clear hk0
            go_upto_region 11 with (fail)
            go_wp2_with fail
            refine wp_region_noPanic ?_
            refine wp_region_held_drew (S := fun wx => (wx.cell? ⟨b0, off + k * 5 + 1, none⟩ = some (.int .i64 kd) ∧ wx.cell? ⟨b0, off + k * 5 + 2, none⟩ = some (.string nm) ∧ wx.cell? ⟨w.heap.size, 0, none⟩ = some (.bool d.allow) ∧ wx.cell? ⟨w.heap.size, 1, none⟩ = some (.bool d.attrsAllow) ∧ wx.cell? ⟨w.heap.size, 2, none⟩ = some (.slice A1 n1 c1) ∧ wx.cell? ⟨w.heap.size, 3, none⟩ = some (.slice A2 n2 c2) ∧ wx.cell? ⟨w.heap.size, 4, none⟩ = some (.slice A3 n3 c3) ∧ wx.cell? ⟨w.heap.size, 5, none⟩ = some (.slice A4 n4 c4) ∧ wx.cell? ⟨w.heap.size, 6, none⟩ = some (.bool d.comments) ∧ wx.cell? ⟨w.heap.size, 7, none⟩ = some (.bool d.dataAttrs))) (by kernel_rfl) ?_ (fun hHeld => ?_)
            · exact HSF.out _ (bel_eq12 (Below.refl _ wr) rfl rfl rfl rfl)
            refine wpAnyH_take (i := 0) (oi := _) (v := ?_) rfl (by kernel_rfl) (by kernel_rfl) (by kernel_rfl) (fun _ _ _ h => h) (Or.inl ⟨by rfl, ?_⟩) (by assumption) ?_
            rotate_left
            · intro w hSw; (try dsimp only at hSw); go_simp; all_goals with_reducible rfl
            try simp only [Act.put, List.getElem_toArray, List.getElem_cons_zero, List.getElem_cons_succ, List.setIfInBounds_toArray, List.set_cons_zero, List.set_cons_succ]
            refine wpAnyH_take (i := 1) (oi := _) (v := ?_) rfl (by kernel_rfl) (by kernel_rfl) (by kernel_rfl) (fun _ _ _ h => h) (Or.inl ⟨by rfl, ?_⟩) (by assumption) ?_
            rotate_left
            · intro w hSw; (try dsimp only at hSw); go_simp; all_goals with_reducible rfl
            try simp only [Act.put, List.getElem_toArray, List.getElem_cons_zero, List.getElem_cons_succ, List.setIfInBounds_toArray, List.set_cons_zero, List.set_cons_succ]
            refine wpAnyH_take (i := 2) (oi := _) (v := ?_) rfl (by kernel_rfl) (by kernel_rfl) (by kernel_rfl) (fun _ _ _ h => h) (Or.inl ⟨by rfl, ?_⟩) (by assumption) ?_
            rotate_left
            · intro w hSw; (try dsimp only at hSw); go_simp; all_goals with_reducible rfl
            try simp only [Act.put, List.getElem_toArray, List.getElem_cons_zero, List.getElem_cons_succ, List.setIfInBounds_toArray, List.set_cons_zero, List.set_cons_succ]
            refine wpAnyH_take (i := 3) (oi := _) (v := ?_) rfl (by kernel_rfl) (by kernel_rfl) (by kernel_rfl) (fun _ _ _ h => h) (Or.inl ⟨by rfl, ?_⟩) (by assumption) ?_
            rotate_left
            · intro w hSw; (try dsimp only at hSw); go_simp; all_goals with_reducible rfl
            try simp only [Act.put, List.getElem_toArray, List.getElem_cons_zero, List.getElem_cons_succ, List.setIfInBounds_toArray, List.set_cons_zero, List.set_cons_succ]
            refine wpAnyH_take (i := 4) (oi := _) (v := ?_) rfl (by kernel_rfl) (by kernel_rfl) (by kernel_rfl) (fun _ _ _ h => h) (Or.inl ⟨by rfl, ?_⟩) (by assumption) ?_
            rotate_left
            · intro w hSw; (try dsimp only at hSw); go_simp; all_goals with_reducible rfl
            try simp only [Act.put, List.getElem_toArray, List.getElem_cons_zero, List.getElem_cons_succ, List.setIfInBounds_toArray, List.set_cons_zero, List.set_cons_succ]
            refine wpAnyH_take (i := 5) (oi := _) (v := ?_) rfl (by kernel_rfl) (by kernel_rfl) (by kernel_rfl) (fun _ _ _ h => h) (Or.inl ⟨by rfl, ?_⟩) (by assumption) ?_
            rotate_left
            · intro w hSw; (try dsimp only at hSw); go_simp; all_goals with_reducible rfl
            try simp only [Act.put, List.getElem_toArray, List.getElem_cons_zero, List.getElem_cons_succ, List.setIfInBounds_toArray, List.set_cons_zero, List.set_cons_succ]
            refine wpAnyH_take (i := 6) (oi := _) (v := ?_) rfl (by kernel_rfl) (by kernel_rfl) (by kernel_rfl) (fun _ _ _ h => h) (Or.inl ⟨by rfl, ?_⟩) (by assumption) ?_
            rotate_left
            · intro w hSw; (try dsimp only at hSw); go_simp; all_goals with_reducible rfl
            try simp only [Act.put, List.getElem_toArray, List.getElem_cons_zero, List.getElem_cons_succ, List.setIfInBounds_toArray, List.set_cons_zero, List.set_cons_succ]
            refine wpAnyH_take (i := 7) (oi := _) (v := ?_) rfl (by kernel_rfl) (by kernel_rfl) (by kernel_rfl) (fun _ _ _ h => h) (Or.inl ⟨by rfl, ?_⟩) (by assumption) ?_
            rotate_left
            · intro w hSw; (try dsimp only at hSw); go_simp; all_goals with_reducible rfl
            try simp only [Act.put, List.getElem_toArray, List.getElem_cons_zero, List.getElem_cons_succ, List.setIfInBounds_toArray, List.set_cons_zero, List.set_cons_succ]
            refine wpAnyH_take (i := 8) (oi := _) (v := ?_) rfl (by kernel_rfl) (by kernel_rfl) (by kernel_rfl) (fun _ _ _ h => h) (Or.inl ⟨by rfl, ?_⟩) (by assumption) ?_
            rotate_left
            · intro w hSw; (try dsimp only at hSw); go_simp; all_goals with_reducible rfl
            try simp only [Act.put, List.getElem_toArray, List.getElem_cons_zero, List.getElem_cons_succ, List.setIfInBounds_toArray, List.set_cons_zero, List.set_cons_succ]
            refine wpAnyH_take (i := 9) (oi := _) (v := undef) rfl (by kernel_rfl) (by kernel_rfl) (by kernel_rfl) (fun _ _ _ h => h) (Or.inr ⟨by rfl, rfl⟩) (by assumption) ?_
            try simp only [Act.put, List.getElem_toArray, List.getElem_cons_zero, List.getElem_cons_succ, List.setIfInBounds_toArray, List.set_cons_zero, List.set_cons_succ]
            refine wpAnyH_take (i := 10) (oi := _) (v := undef) rfl (by kernel_rfl) (by kernel_rfl) (by kernel_rfl) (fun _ _ _ h => h) (Or.inr ⟨by rfl, rfl⟩) (by assumption) ?_
            try simp only [Act.put, List.getElem_toArray, List.getElem_cons_zero, List.getElem_cons_succ, List.setIfInBounds_toArray, List.set_cons_zero, List.set_cons_succ]
            refine wpAnyH_take (i := 11) (oi := _) (v := undef) rfl (by kernel_rfl) (by kernel_rfl) (by kernel_rfl) (fun _ _ _ h => h) (Or.inr ⟨by rfl, rfl⟩) (by assumption) ?_
            try simp only [Act.put, List.getElem_toArray, List.getElem_cons_zero, List.getElem_cons_succ, List.setIfInBounds_toArray, List.set_cons_zero, List.set_cons_succ]
            refine wpAnyH_take (i := 12) (oi := _) (v := undef) rfl (by kernel_rfl) (by kernel_rfl) (by kernel_rfl) (fun _ _ _ h => h) (Or.inr ⟨by rfl, rfl⟩) (by assumption) ?_
            try simp only [Act.put, List.getElem_toArray, List.getElem_cons_zero, List.getElem_cons_succ, List.setIfInBounds_toArray, List.set_cons_zero, List.set_cons_succ]
            refine wpAnyH_take (i := 13) (oi := _) (v := undef) rfl (by kernel_rfl) (by kernel_rfl) (by kernel_rfl) (fun _ _ _ h => h) (Or.inr ⟨by rfl, rfl⟩) (by assumption) ?_
            try simp only [Act.put, List.getElem_toArray, List.getElem_cons_zero, List.getElem_cons_succ, List.setIfInBounds_toArray, List.set_cons_zero, List.set_cons_succ]
            refine wpAnyH_take (i := 14) (oi := _) (v := undef) rfl (by kernel_rfl) (by kernel_rfl) (by kernel_rfl) (fun _ _ _ h => h) (Or.inr ⟨by rfl, rfl⟩) (by assumption) ?_
            try simp only [Act.put, List.getElem_toArray, List.getElem_cons_zero, List.getElem_cons_succ, List.setIfInBounds_toArray, List.set_cons_zero, List.set_cons_succ]
            refine wpAnyH_take (i := 15) (oi := _) (v := undef) rfl (by kernel_rfl) (by kernel_rfl) (by kernel_rfl) (fun _ _ _ h => h) (Or.inr ⟨by rfl, rfl⟩) (by assumption) ?_
            try simp only [Act.put, List.getElem_toArray, List.getElem_cons_zero, List.getElem_cons_succ, List.setIfInBounds_toArray, List.set_cons_zero, List.set_cons_succ]
            refine wpAnyH_take (i := 16) (oi := _) (v := undef) rfl (by kernel_rfl) (by kernel_rfl) (by kernel_rfl) (fun _ _ _ h => h) (Or.inr ⟨by rfl, rfl⟩) (by assumption) ?_
            try simp only [Act.put, List.getElem_toArray, List.getElem_cons_zero, List.getElem_cons_succ, List.setIfInBounds_toArray, List.set_cons_zero, List.set_cons_succ]
            refine wpAnyH_take (i := 17) (oi := _) (v := ?_) rfl (by kernel_rfl) (by kernel_rfl) (by kernel_rfl) (fun _ _ _ h => h) (Or.inl ⟨by rfl, ?_⟩) (by assumption) ?_
            rotate_left
            · intro w hSw; (try dsimp only at hSw); go_simp; all_goals with_reducible rfl
            try simp only [Act.put, List.getElem_toArray, List.getElem_cons_zero, List.getElem_cons_succ, List.setIfInBounds_toArray, List.set_cons_zero, List.set_cons_succ]
            refine wpAnyH_take (i := 18) (oi := _) (v := ?_) rfl (by kernel_rfl) (by kernel_rfl) (by kernel_rfl) (fun _ _ _ h => h) (Or.inl ⟨by rfl, ?_⟩) (by assumption) ?_
            rotate_left
            · intro w hSw; (try dsimp only at hSw); go_simp; all_goals with_reducible rfl
            try simp only [Act.put, List.getElem_toArray, List.getElem_cons_zero, List.getElem_cons_succ, List.setIfInBounds_toArray, List.set_cons_zero, List.set_cons_succ]
            refine wpAnyH_take (i := 19) (oi := _) (v := ?_) rfl (by kernel_rfl) (by kernel_rfl) (by kernel_rfl) (fun _ _ _ h => h) (Or.inl ⟨by rfl, ?_⟩) (by assumption) ?_
            rotate_left
            · intro w hSw; (try dsimp only at hSw); go_simp; all_goals with_reducible rfl
            try simp only [Act.put, List.getElem_toArray, List.getElem_cons_zero, List.getElem_cons_succ, List.setIfInBounds_toArray, List.set_cons_zero, List.set_cons_succ]
            refine wpAnyH_done (by kernel_rfl) ?_ _
            refine NoPanic.normal ?_
            go_wp2
            go_roundw
            case rel => exact ⟨k + 1, false, by go_num, rfl, by omega, Lib.hid HGB.out, HBR.out.trans (((bel_eq12 (Below.refl _ wr) rfl rfl rfl rfl : Below wr.heap.size wr wr.drew)).mono HBR.out.size)⟩
            case measure => simp [intOf]; omega
      · have hfin : b = L.any (goneB d) := by
          have h1 := hb.out
          rwa [List.take_of_length_le (by rw [← HLL.out, len_ros]; omega)] at h1
        have HV1w := Lib.hid (HV1.out.below hbel)
        have HBW2 := Lib.hid hbW
        cases b with
        | true =>
          have hsz : (qt.size : Int) ≤ (qa.size : Int) := by have := HSZ.out; omega
          clear hb hfin hbel hbW
          go_wp2_with (first
            | (go_at_call 25; refine (refText1 _ y1 (-1) wr qt HV1w.out (by omega) (by rw [HY1.out]; exact HW2.out.t) (by rw [HY1.out, txt_top]; exact HQT.out)).mono ?_; rintro r a3 ⟨rfl, hb⟩; have HA3 := Lib.hid (HBW2.out.trans (hb.mono HBW2.out.size)); clear hb)
            | (go_at_call 19; refine (Co.on_base (fixed13 a3) HA3.out).mono ?_; rintro r z4 ⟨rfl, hb⟩; have HZ4 := Lib.hid hb; clear hb)
            | fail)
          go_ret
          exact ⟨rfl, HBW.out.trans (HZ4.out.mono HBW.out.size)⟩
        | false =>
          have hqq := HSM2.out hfin.symm
          subst hqq
          clear hb hfin hbel hbW
          go_wp2_with (first
            | (go_at_call 25; refine (refText1 _ y1 (-1) wr qt HV1w.out (by omega) (by rw [HY1.out]; exact HW2.out.t) (by rw [HY1.out, txt_top]; exact HQT.out)).mono ?_; rintro r a3 ⟨rfl, hb⟩; have HA3 := Lib.hid (HBW2.out.trans (hb.mono HBW2.out.size)); clear hb)
            | (go_at_call 19; refine (Co.on_base (fixed13 a3) HA3.out).mono ?_; rintro r z4 ⟨rfl, hb⟩; have HZ4 := Lib.hid hb; clear hb)
            | fail)
          go_ret
          exact ⟨rfl, HBW.out.trans (HZ4.out.mono HBW.out.size)⟩
  · have hT0 : T = [] := by rw [← HT.out, out_no (by rw [HE.out]; exact h0)]
    subst hT0
    have h0b : (E == 0) = false := by simpa using h0
    go_upto_region 4 with (first
      | (show wpList _ _ _ (⟨_, Op.load 26 (.tmp 3), _, _, _, _⟩ :: _) _ _; refine wpList_load_mid rfl 26 (.tmp 3) rfl w.heap.size 0 rfl _ _ (HXF.out _ HRF.out) Try.underlying26 rfl Co.size_conf ?_)
      | (go_at_call 14; refine (rowsL _ (confV d (.slice A1 n1 c1) (.slice A2 n2 c2) (.slice A3 n3 c3) (.slice A4 n4 c4)) l1 L d false W W (HVF.out W HRF.out) HLL.out HLW.out (HCF.out W HRF.out) HSM.out _ _ HE.out HT.out HRF.out).mono ?_; rintro r a1 ⟨B1, j1, y1, rfl, hy1, hv1, hb1, hc1⟩; have HY1 := Lib.hid hy1; have HV1 := Lib.hid hv1; have HA1 := Lib.hid hb1; clear hy1 hv1 hb1 hc1)
      | fail)
    have HFX := Lib.hid (Co.on_base (fixed13 a1) HA1.out)
    go_wp2_with (first
      | (go_at_call 19; refine HFX.out.mono ?_; rintro r z4 ⟨rfl, hb⟩; have HZ4 := Lib.hid hb; clear hb)
      | fail)
    go_ret
    exact ⟨rfl, HBW.out.trans (HZ4.out.mono HBW.out.size)⟩

end Go.Proofs.Ytdjkeakagmgfgaa.Cn

namespace Go.Proofs.Ytdjkeakagmgfgaa.Ro
set_option maxRecDepth 100000
set_option linter.unusedVariables false
set_option linter.unusedSimpArgs false
open Go.RowKit Ba Go.ChangeShapes Go.WideShapes Go.Deep
section
variable {H : Type} {enc : TypeId × Value → H} {P : Program} {w : World} {base : Nat} {spare : Nat → Bool} {held : Bool}
theorem open_rows_data {t e : TypeId} {fs : Array Field} {fuel : Nat} {cs : List Value} {x : DataW H × List MemPlace} (ht : P.underlying t = some (.slice e)) (he : P.underlying e = some (.struct fs))
    (hone : oneCellFields P fs = true) (hC : P.cellsOf e = fs.size) (h : DataW.trod enc P w base spare held fuel t cs = some x) :
    cs = [.slice none 0 0] ∨
    ∃ (a : Addr) (len cap : Nat) (D : Nat → DataW H) (sp : List (DataW H)), cs = [.slice (some a) len cap] ∧ x.1 = .slice ((List.range len).map D) sp ∧
      ∀ i, i < len → ∀ (j : Nat) (f : Field), fs[j]? = some f → ∃ (v : Value) (y : DataW H × List MemPlace) (n : Nat) (parts : List (DataW H)), w.cell? (a.add (i * fs.size + j)) = some v ∧ D i = .agg parts ∧ y.1 ∈ parts ∧ DataW.trod enc P w base spare held n f.type [v] = some y := by
  rcases open_slice ht h with ⟨h0, _⟩ | ⟨a, len, cap, m, n, D, Pl, hcs, hb, hl, hm, hmm, hx, hi⟩
  · exact .inl h0
  · refine .inr ⟨a, len, cap, D, _, hcs, by rw [hx], fun i hil j f hj => ?_⟩
    have him : i < m := by rw [hmm]; split <;> omega
    obtain ⟨cs', hc, ht'⟩ := hi i him
    rw [hC] at hc
    obtain ⟨ys, n', hn', hy, hlen, hyl, hf⟩ := DataW.trod_struct he ht'
    obtain ⟨_, hcl, hat⟩ := World.cells?_some hc
    simp only [Prod.mk.injEq] at hy
    obtain ⟨ho, hk⟩ := hone_of hone j f hj
    have hjl : j < fs.size := (Array.getElem?_eq_some_iff.1 hj).1
    have hcell := hat j hjl
    have hv : cs'[j]? = some (cs'[j]'(by omega)) := List.getElem?_eq_getElem (by omega)
    have h1 := hf j f hj
    rw [ho, hk] at h1
    have hone' : (cs'.drop j).take 1 = [cs'[j]'(by omega)] := by
      rw [List.drop_eq_getElem_cons (by omega)]
      rfl
    rw [hone'] at h1
    have hys : ys[j]? = some (ys[j]'(by omega)) := List.getElem?_eq_getElem (by omega)
    refine ⟨_, _, n', _, ?_, hy.1, List.mem_map.2 ⟨_, List.getElem_mem _, rfl⟩, h1.trans hys⟩
    rw [← Go.Deep.add_add, hcell, hv]
end

theorem txt_bulk {H : Type} (D : Nat → DataW H) : ∀ (l : List Cw) (o : Nat), (∀ i (h : i < l.length), l[i].ro.data.size ≤ Rows.uptoBulk (D (o + i))) → (txt (ros l)).length ≤ Rows.uptoBulkAll ((List.range' o l.length).map D)
  | [], o, _ => by simp [ros, txt]
  | x :: r, o, h => by
    have h0 := h 0 (by simp)
    have ih := txt_bulk D r (o + 1) fun i hi => by
      have := h (i + 1) (by simp; omega)
      rw [show o + 1 + i = o + (i + 1) by omega]
      exact this
    rw [ros_cons, txt, List.length_append, List.length_cons, List.range'_succ, List.map_cons, Rows.uptoBulkAll]
    have h1 : x.ro.data.size ≤ Rows.uptoBulk (D o) := h0
    have h2 : (if x.ro.kind = 1 then L x.ro.data else []).length ≤ x.ro.data.size := by
      split
      · rw [size_L]; exact Nat.le_refl _
      · exact Nat.zero_le _
    omega

theorem rows_bulk {H : Type} {enc : TypeId × Value → H} {w : World} {N : Nat} {v : Value} {A : Option Addr} {c : Nat} {l : List Cw} {d : DataW H} {p : List MemPlace} (hv : v = .slice A l.length c) (hr : Rr w N A l)
    (h : ∃ fuel, DataW.trod enc Try.prog w 0 (fun _ => true) true fuel 22 v.cells.toList = some (d, p)) : (txt (ros l)).length ≤ Rows.uptoBulk d := by
  obtain ⟨fuel, hf⟩ := h
  subst hv
  rcases open_rows_data Try.underlying22 Try.underlying36 (by kernel_rfl) (by kernel_rfl) hf with hcs | ⟨a, len, cap, D, sp, hcs, hx, hi⟩
  · simp [Value.cells] at hcs
    obtain ⟨_, hl, _⟩ := hcs
    have : l = [] := hl
    subst this
    simp [ros, txt]
  · simp [Value.cells] at hcs
    obtain ⟨hA, hl, _⟩ := hcs
    have hx : d = _ := hx
    rw [hx, Rows.uptoBulk]
    have := txt_bulk D l 0 fun i hil => by
      obtain ⟨b, off, e, _, hc⟩ := hr.1 (by omega)
      obtain ⟨u, y, n, parts, hcell, hD, hy, ht⟩ := hi i (by omega) 3 _ rfl
      obtain ⟨s, e1, e2, _⟩ := DataW.trod_string Try.underlying9 ht
      have hcl := hc i hil 3 (.string l[i].ro.data) rfl
      rw [hA] at e
      injection e with e
      subst e
      rw [add_plain] at hcell
      rw [show off + i * 5 + 3 = off + (i * 5 + 3) by omega] at hcl
      have huv : u = .string l[i].ro.data := Option.some.inj (hcell.symm.trans hcl)
      have hs : s = l[i].ro.data := by
        have : u = .string s := by simpa using e1
        rw [this] at huv
        injection huv
      rw [Nat.zero_add, hD, Rows.uptoBulk]
      have h3 := mem_bulk hy
      have h4 : Rows.uptoBulk y.1 = s.size + 1 := by rw [e2, Rows.uptoBulk, Array.length_toList]; rfl
      rw [hs] at h4
      omega
    rw [← List.range_eq_range', hl] at this
    omega

end Go.Proofs.Ytdjkeakagmgfgaa.Ro
