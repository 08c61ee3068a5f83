/-
  Walks of stage 2: fold.merged, fold.Sorted, fold.Minus.
-/
import Derived.Test.YtknllnjpbbldkaaFoldWalkH
namespace Go.Proofs.Ytknllnjpbbldkaa.Fo
open Go.RowKit Ba Fm

def lenOf : Value → Nat | .slice _ n _ => n | _ => 0

/-- v reads as l, below block N. -/
def Sv (w : World) (N : Nat) (v : Value) (l : List ByteArray) : Prop := ∃ A c, v = .slice A l.length c ∧ l.length ≤ c ∧ (A = none → c = 0) ∧ Rd w N A l
theorem sv_own {N : Nat} {w : World} {v : Value} {l : List ByteArray} (h : Sown N w v l) : Sv w w.heap.size v l := by
  rcases h.2 with ⟨hv, hl⟩ | ⟨g, cap, cur, hv, hg, hh, hn, hm, hs, ht⟩
  · have : l = [] := List.eq_nil_of_length_eq_zero hl
    subst this
    exact ⟨none, 0, hv, Nat.le_refl _, fun _ => rfl, Rd.nil _ _ _⟩
  · obtain ⟨A, c, hv', h1, _, h3⟩ := h.form
    refine ⟨A, c, hv', h1, fun e => ?_, h3⟩
    rw [hv] at hv'
    injection hv' with e1
    rw [e] at e1
    cases e1
theorem Sv.below {w w' : World} {N M : Nat} {v : Value} {l : List ByteArray} (h : Sv w N v l) (hb : Below M w w') (hN : N ≤ M) : Sv w' N v l := by
  obtain ⟨A, c, h1, h2, h3, h4⟩ := h
  exact ⟨A, c, h1, h2, h3, h4.below hb hN⟩
theorem Sv.more {w : World} {N M : Nat} {v : Value} {l : List ByteArray} (h : Sv w N v l) (hN : N ≤ M) : Sv w M v l := by
  obtain ⟨A, c, h1, h2, h3, h4⟩ := h
  exact ⟨A, c, h1, h2, h3, h4.more hN⟩

theorem sv_tail {w : World} {N b o c : Nat} {p : ByteArray} {x : List ByteArray} (h : Rd w N (some ⟨b, o, none⟩) (p :: x)) (hc : x.length + 1 ≤ c) : Sv w N (.slice (if c = 1 then some ⟨b, o, none⟩ else some ⟨b, o + 1, none⟩) x.length (c - 1)) x := by
  refine ⟨_, c - 1, rfl, by omega, fun e => ?_, fun h0 => ?_⟩
  · split at e <;> cases e
  · obtain ⟨b', o', e, hb, hcc⟩ := h (by simp)
    injection e with e
    injection e with e1 e2
    subst e1 e2
    rw [if_neg (by omega)]
    refine ⟨b, o + 1, rfl, hb, fun j hj => ?_⟩
    have := hcc (j + 1) (by simp; omega)
    rw [show o + 1 + j = o + (j + 1) from by omega]
    exact this
theorem bdx {acc x y : List ByteArray} {a b : List ByteArray} (h : acc ++ mrg lt x y = mrg lt a b) (ha : a.length ≤ 1000000) (hb : b.length ≤ 1000000) (hx : x.length ≤ 1000000) (hy : y.length ≤ 1000000) : (acc.length + x.length) * 16 ≤ 140737488355328 ∧ ((acc ++ x).length + y.length) * 16 ≤ 140737488355328 := by
  have h1 := congrArg List.length h
  have h2 := len_mrg lt a b
  rw [List.length_append] at h1
  rw [List.length_append]
  omega
theorem bdm {acc r : List ByteArray} {x : ByteArray} {a b : List ByteArray} (h : acc ++ x :: r = mrg lt a b) (ha : a.length ≤ 1000000) (hb : b.length ≤ 1000000) : (acc.length + 1) * 16 ≤ 140737488355328 := by
  have h1 := congrArg List.length h
  have h2 := len_mrg lt a b
  rw [List.length_append, List.length_cons] at h1
  omega

set_option maxRecDepth 100000 in
set_option maxHeartbeats 2000000 in
theorem merged_any (va vb : Value) (a b : List ByteArray) (w : World) (hva : Sv w w.heap.size va a) (hvb : Sv w w.heap.size vb b) (hla : a.length ≤ 1000000) (hlb : b.length ≤ 1000000) :
    Calls Try.prog 32 #[va, vb] w fun e w' => ∃ v, e = .returned v ∧ Sown w.heap.size w' v (mrg lt a b) ∧ Below w.heap.size w w' := by
  obtain ⟨i0, hi, hz0, hz1, hz2⟩ := info_parts info_str
  obtain ⟨A, ca, rfl, hca, hna, hra⟩ := hva
  obtain ⟨C, cb, rfl, hcb, hnb, hrb⟩ := hvb
  go_enter Try.func32, Try.ntmps32
  go_wp2_with (at_make; refine wpList_make_own _ rfl (.const (.int .i64 0)) (.tmp 10) 27 rfl w.heap.size 9 i0 (.string .empty) 1 Try.underlying27 hi hz0 hz1 .i64 .i64 _ (a.length + b.length) rfl rfl (by simp) (by rw [hz2]; omega) (by unfold maxLen; omega) (Nat.le_refl _) ?_; intro w1 hown hgrow)
  have hb0 : Below w.heap.size w w1 := (Below.refl w.heap.size w).grown hgrow (Nat.le_refl _) (by simp)
  have ho0 : Sown w.heap.size w1 (.slice (some ⟨w.heap.size, 0, none⟩) 0 (a.length + b.length)) [] := hown
  clear hown hgrow
  go_loopw [0, 1, 5] (fun xa xb v wr => ∃ (x y acc : List ByteArray), Sv w w.heap.size xa x ∧ Sv w w.heap.size xb y ∧ x.length ≤ 1000000 ∧ y.length ≤ 1000000 ∧ Sown w.heap.size wr v acc ∧ acc ++ mrg lt x y = mrg lt a b ∧ Below w.heap.size w wr) (fun xa xb _ _ => lenOf xa + lenOf xb)
  case atStart => exact ⟨a, b, [], ⟨A, ca, rfl, hca, hna, hra⟩, ⟨C, cb, rfl, hcb, hnb, hrb⟩, hla, hlb, ho0, rfl, hb0⟩
  case round =>
    clear ho0 hb0 hra hrb hca hcb hna hnb
    obtain ⟨x, y, acc, ⟨D, cd, rfl, hcd, hnd, hrd⟩, ⟨E, ce, rfl, hce, hne, hre⟩, hlx, hly, hown, hc, hbel⟩ := hrel
    have hN := hbel.size
    cases x with
    | nil =>
      obtain ⟨k1, k2⟩ := bdx hc hla hlb hlx hly
      rw [mrg_nil] at hc
      have HC := Lib.hid hc; clear hc
      simp only [List.length_nil] at hcd hlx k1 ⊢
      go_wp2_with (first | (at_builtin; refine app_all wr rfl (.tmp 54) (.tmp 55) rfl w.heap.size _ acc [] D cd w.heap.size rfl hown rfl hnd (Rd.nil _ _ _) k1 hN ?_; intro v3 w3 hown3 hk3 _) | (at_builtin; refine app_all w3 rfl (.tmp 57) (.tmp 58) rfl w.heap.size _ (acc ++ []) y E ce w.heap.size rfl hown3 rfl hne (hre.below (hk3 _ hbel) (Nat.le_refl _)) k2 (hk3 _ hbel).size ?_; intro v4 w4 hown4 hk4 _))
      go_ret
      exact ⟨v4, rfl, by rw [← HC.out, ← List.append_nil acc]; exact hown4, hk4 _ (hk3 _ hbel)⟩
    | cons p x =>
    cases y with
    | nil =>
      obtain ⟨k1, k2⟩ := bdx hc hla hlb hlx hly
      rw [mrg_nil'] at hc
      have HC := Lib.hid hc; clear hc
      simp only [List.length_nil, List.length_cons] at hcd hce hlx hly k1 k2 ⊢
      have hlen : (p :: x).length = x.length + 1 := rfl
      go_wp2_with (first | (at_builtin; refine app_all wr rfl (.tmp 54) (.tmp 55) rfl w.heap.size _ acc (p :: x) D cd w.heap.size rfl hown rfl hnd (hrd.below hbel (Nat.le_refl _)) k1 hN ?_; intro v3 w3 hown3 hk3 _) | (at_builtin; refine app_all w3 rfl (.tmp 57) (.tmp 58) rfl w.heap.size _ (acc ++ p :: x) [] E ce w.heap.size rfl hown3 rfl hne (Rd.nil _ _ _) k2 (hk3 _ hbel).size ?_; intro v4 w4 hown4 hk4 _))
      go_ret
      exact ⟨v4, rfl, by rw [← HC.out, ← List.append_nil (acc ++ p :: x)]; exact hown4, hk4 _ (hk3 _ hbel)⟩
    | cons q y =>
      have hrd0 := hrd
      have hre0 := hre
      obtain ⟨b1, o1, rfl, hb1, hc1⟩ := hrd (by simp)
      obtain ⟨b2, o2, rfl, hb2, hc2⟩ := hre (by simp)
      have g1 : wr.cell? ⟨b1, o1, none⟩ = some (.string p) := (hbel.cell (p := ⟨b1, o1, none⟩) hb1).trans (hc1 0 (by simp))
      have g2 : wr.cell? ⟨b2, o2, none⟩ = some (.string q) := (hbel.cell (p := ⟨b2, o2, none⟩) hb2).trans (hc2 0 (by simp))
      have hxt := sv_tail hrd0 hcd
      have hyt := sv_tail hre0 hce
      have hxs : Sv w w.heap.size (.slice (some ⟨b1, o1, none⟩) (x.length + 1) cd) (p :: x) := ⟨_, cd, rfl, hcd, hnd, hrd0⟩
      have hys : Sv w w.heap.size (.slice (some ⟨b2, o2, none⟩) (y.length + 1) ce) (q :: y) := ⟨_, ce, rfl, hce, hne, hre0⟩
      simp only [List.length_cons] at hcd hce hlx hly ⊢
      have HX := Lib.hid hxt; have HY := Lib.hid hyt; have HXS := Lib.hid hxs; have HYS := Lib.hid hys
      clear hxt hyt hxs hys hc1 hc2 hrd hre hrd0 hre0 hnd hne
      cases h1 : lt p q with
      | true =>
        rw [mrg_lt _ _ h1] at hc
        have hbd := bdm hc hla hlb
        have HC := Lib.hid hc; clear hc
        have h1' : Op.bytesLess p.toList q.toList = true := h1
        clear h1
        go_wp2
        go_quiet (fail)
        have hbel3 := below_dN hbel nq
        go_wp2_with (at_builtin; refine app_one (wr.drewN nq) rfl (.tmp 30) (.tmp 34) rfl w.heap.size _ acc p rfl (sown_dN hown nq) rfl hbd hbel3.size ?_; intro v3 w3 hown3 hk3 _)
        go_roundw
        case rel => exact ⟨x, q :: y, acc ++ [p], HX.out, HYS.out, by omega, by simp; omega, hown3, by rw [List.append_assoc]; exact HC.out, hk3 _ hbel3⟩
        case measure => simp [lenOf]
      | false =>
        have h1' : Op.bytesLess p.toList q.toList = false := h1
        cases h2 : lt q p with
        | true =>
          rw [mrg_gt _ _ h1 h2] at hc
          have hbd := bdm hc hla hlb
          have HC := Lib.hid hc; clear hc
          have h2' : Op.bytesLess q.toList p.toList = true := h2
          clear h1 h2
          go_wp2
          go_quiet (fail)
          obtain ⟨w6, hw6⟩ : ∃ w6, wr.drewN nq = w6 := ⟨_, rfl⟩
          have hbel3 : Below w.heap.size w w6 := hw6 ▸ below_dN hbel nq
          have hown6 : Sown w.heap.size w6 _ acc := hw6 ▸ sown_dN hown nq
          have g1' : w6.cell? ⟨b1, o1, none⟩ = some (.string p) := hw6 ▸ g1
          have g2' : w6.cell? ⟨b2, o2, none⟩ = some (.string q) := hw6 ▸ g2
          rw [hw6]
          clear hw6
          go_wp2
          go_quiet (fail)
          have hbel4 := below_dN hbel3 nq
          go_wp2_with (at_builtin; refine app_one (w6.drewN nq) rfl (.tmp 46) (.tmp 50) rfl w.heap.size _ acc q rfl (sown_dN hown6 nq) rfl hbd hbel4.size ?_; intro v3 w3 hown3 hk3 _)
          go_roundw
          case rel => exact ⟨p :: x, y, acc ++ [q], HXS.out, HY.out, by simp; omega, by omega, hown3, by rw [List.append_assoc]; exact HC.out, hk3 _ hbel4⟩
          case measure => simp [lenOf]
        | false =>
          rw [mrg_eq _ _ h1 h2] at hc
          have HC := Lib.hid hc; clear hc
          have h2' : Op.bytesLess q.toList p.toList = false := h2
          clear h1 h2
          go_wp2
          go_quiet (fail)
          obtain ⟨w6, hw6⟩ : ∃ w6, wr.drewN nq = w6 := ⟨_, rfl⟩
          have hbel3 : Below w.heap.size w w6 := hw6 ▸ below_dN hbel nq
          have hown6 : Sown w.heap.size w6 _ acc := hw6 ▸ sown_dN hown nq
          have g1' : w6.cell? ⟨b1, o1, none⟩ = some (.string p) := hw6 ▸ g1
          have g2' : w6.cell? ⟨b2, o2, none⟩ = some (.string q) := hw6 ▸ g2
          rw [hw6]
          clear hw6
          go_wp2
          go_quiet (fail)
          have hbel4 := below_dN hbel3 nq
          go_wp2
          go_roundw
          case rel => exact ⟨x, q :: y, acc, HX.out, HYS.out, by omega, by simp; omega, sown_dN hown6 nq, HC.out, hbel4⟩
          case measure => simp [lenOf]

end Go.Proofs.Ytknllnjpbbldkaa.Fo
