/-
  Walk of stage 12: what the law spoils.
  Stage 12: ConfigStrip.
  boltingref02.Is, of a list that rises.
  Stage 12: ConfigCanon.
-/
import Derived.Test.YtgjlfcamgkeibaaCk04
import Derived.Test.YtgjlfcamgkeibaaCk02
import Derived.Deep.CutRange
import Derived.Test.YtgjlfcamgkeibaaCk01
import Derived.Test.YtgjlfcamgkeibaaCk03
namespace Go.Proofs.Ytgjlfcamgkeibaa.Co
set_option maxRecDepth 100000
set_option linter.unusedVariables false
set_option linter.unusedSimpArgs false
open Go.RowKit Ba Fm Fo Nm Rk
def Sp (N M : Nat) (w w' : World) : Prop := w'.os = w.os ∧ w'.tape = w.tape ∧ w'.output = w.output ∧ w'.heap.size = w.heap.size ∧
  ∀ b : Nat, w'.heap[b]? = w.heap[b]? ∨ (N ≤ b ∧ b < M ∧ ∃ cs cs' : Array Value, w.heap[b]? = some (.cells cs 9) ∧ w'.heap[b]? = some (.cells cs' 9) ∧ cs'.size = cs.size)
theorem Sp.refl (N M : Nat) (w : World) : Sp N M w w := ⟨rfl, rfl, rfl, rfl, fun _ => .inl rfl⟩
theorem Sp.below {N M : Nat} {w w' : World} (h : Sp N M w w') : Below N w w' := ⟨h.1, h.2.1, h.2.2.1, Nat.le_of_eq h.2.2.2.1.symm, fun k hk => by
  rcases h.2.2.2.2 k with h | ⟨h, _⟩
  · exact h
  · omega⟩
theorem Sp.alloc {N : Nat} {w w' : World} (h : Sp N w.heap.size w w') (o : Obj) : Sp N w.heap.size (w.alloc o) (w'.alloc o) := by
  refine ⟨h.1, h.2.1, h.2.2.1, by simp [h.2.2.2.1], fun b => ?_⟩
  have e1 := below_new12 w o
  have e2 := below_new12 w' o
  by_cases hb : b < w.heap.size
  · rw [e1.block b hb, e2.block b (by rw [h.2.2.2.1]; exact hb)]
    exact h.2.2.2.2 b
  · left
    by_cases hq : b = w.heap.size
    · have h1 : (w.alloc o).heap[w.heap.size]? = some o := heap_alloc_new w o
      have h2 : (w'.alloc o).heap[w'.heap.size]? = some o := heap_alloc_new w' o
      rw [h.2.2.2.1] at h2
      rw [hq, h1, h2]
    · rw [Array.getElem?_eq_none (by have := h.2.2.2.1; simp; omega), Array.getElem?_eq_none (by have := h.2.2.2.1; simp; omega)]
theorem Sp.more {N M M' : Nat} {w w' : World} (h : Sp N M w w') (hM : M ≤ M') : Sp N M' w w' := ⟨h.1, h.2.1, h.2.2.1, h.2.2.2.1, fun b => (h.2.2.2.2 b).imp id fun ⟨h1, h2, h3⟩ => ⟨h1, by omega, h3⟩⟩
theorem Sp.over {N M b : Nat} {w w' : World} (h : Sp N M w w') (hb : M ≤ b) : w'.heap[b]? = w.heap[b]? := by
  rcases h.2.2.2.2 b with h | ⟨_, h, _⟩
  · exact h
  · omega
theorem Sp.other {N M b : Nat} {w w' : World} {cs : Array Value} {t : TypeId} (h : Sp N M w w') (hb : w.heap[b]? = some (.cells cs t)) (ht : t ≠ 9) : w'.heap[b]? = w.heap[b]? := by
  rcases h.2.2.2.2 b with h | ⟨_, _, c1, _, h1, _⟩
  · exact h
  · rw [h1] at hb
    injection hb with hb
    injection hb with _ hb
    exact absurd hb.symm ht
theorem Sp.at_ {N M : Nat} {w w' : World} {v : Value} {l : List ByteArray} (h : Sp N M w w') (hv : Sown N w v l) (hM : ∀ b, v.ownBlock = some b → b < M) {i : Nat} (hi : i < l.length) :
    ∃ g c, v = .slice (some ⟨g, 0, none⟩) l.length c ∧ (∃ u, w'.cell? ⟨g, i, none⟩ = some u) ∧ w'.frozen? ⟨g, i, none⟩ = false ∧ ∀ s, Sp N M w (w'.setCell ⟨g, i, none⟩ (.string s)) := by
  rcases hv.2 with ⟨e, h0⟩ | ⟨g, cap, cur, e, hg, hh, hn, hm, hs, ht⟩
  · omega
  · have hgM : g < M := hM g (by rw [e]; rfl)
    have hcur : ∃ cs : Array Value, w'.heap[g]? = some (.cells cs 9) ∧ cs.size = cur.size := by
      rcases h.2.2.2.2 g with h1 | ⟨_, _, c1, c2, h1, h2, h3⟩
      · exact ⟨cur, h1.trans hh, rfl⟩
      · rw [h1] at hh
        injection hh with hh
        injection hh with hh
        exact ⟨c2, h2, by rw [h3, hh]⟩
    obtain ⟨cs, hc, hcs⟩ := hcur
    have hlt : i < cs.size := by rw [hcs]; omega
    refine ⟨g, cap, e, ⟨cs[i], ?_⟩, ?_, fun s => ⟨h.1, h.2.1, h.2.2.1, ?_, fun b => ?_⟩⟩
    · rw [cell_of_row w' g i _ _ _ hc]
      exact Array.getElem?_eq_getElem hlt
    · simp [World.frozen?, hc]
    · rw [← h.2.2.2.1]; simp [World.setCell]
    · by_cases hb : b = g
      · subst hb
        right
        refine ⟨hg, hgM, cur, cs.setIfInBounds i (.string s), hh, ?_, by rw [Array.size_setIfInBounds, hcs]⟩
        simp [World.setCell, Array.getElem?_modify, hc]
      · rcases h.2.2.2.2 b with h1 | ⟨p1, p2, c1, c2, h1, h2, h3⟩
        · left; exact (Below.heap_setCell _ _ _ _ hb).trans h1
        · right; exact ⟨p1, p2, c1, c2, h1, (Below.heap_setCell _ _ _ _ hb).trans h2, h3⟩
theorem per_at {N M : Nat} {w : World} {A : Option Addr} {c n : Nat} {l : List Pw} {x : Pw} (h : Po N w (.slice A l.length c) l) (hn : n < l.length) (hx : l[n] = x) :
    ∃ g, A = some ⟨g, 0, none⟩ ∧ ∀ w', Sp N M w w' → w'.cell? ⟨g, n * 2 + 1, none⟩ = some (.slice x.A x.pe.at_.length x.c) := by
  rcases h.1.2 with ⟨e, h0⟩ | ⟨g, cap, cur, e, hg, hh, hn', hm, hs, ht⟩
  · omega
  · injection e with e1 e2 e3
    refine ⟨g, e1, fun w' hsp => ?_⟩
    obtain ⟨A', c', e', _, _, hpr⟩ := h.pv
    injection e' with e4 e5 e6
    obtain ⟨b, off, y, hA, _, hy, hcs, _, _⟩ := hpr.at_ n hn
    rw [hA] at e4
    rw [e4] at e1
    injection e1 with e1
    injection e1 with e7 e8
    subst e7 e8
    obtain ⟨_, h1⟩ := range2p hcs
    rw [List.getElem?_eq_getElem hn, hx] at hy
    injection hy with hy
    rw [← hy, Nat.zero_add] at h1
    exact (World.cell?_of_block (a := ⟨b, n * 2 + 1, none⟩) (hsp.other hh (by decide))).trans h1
set_option maxRecDepth 100000 in
set_option maxHeartbeats 1000000 in
theorem spoil1 (v : Value) (c : Cf) (N : Nat) (wA w : World) (h : Cow N wA v c) (hs : Sm c) (hsp0 : Sp N wA.heap.size wA w) :
    Calls Try.prog 20 #[v] w fun r w' => r = .returned (.tuple #[]) ∧ ∃ w0, Below wA.heap.size wA w0 ∧ Sp N wA.heap.size w0 w' := by
  have hsz : w.heap.size = wA.heap.size := hsp0.2.2.2.1
  obtain ⟨vE, vR, vA, vP, l, rfl, h⟩ := h
  obtain ⟨A1, k1, rfl, -⟩ := h.e.form
  obtain ⟨A2, k2, rfl, -⟩ := h.r.form
  obtain ⟨A3, k3, rfl, -⟩ := h.a.form
  obtain ⟨A4, k4, rfl, -⟩ := h.p.form
  obtain ⟨w0, hw0⟩ : ∃ w0, wA.alloc (confO c (.slice A1 c.els.length k1) (.slice A2 c.reps.length k2) (.slice A3 c.ats.length k3) (.slice A4 l.length k4)) = w0 := ⟨_, rfl⟩
  have hb0 : Below wA.heap.size wA w0 := hw0 ▸ below_new12 wA _
  have hx0 : Hb w0 w.heap.size #[.bool c.allow, .bool c.attrsAllow, .slice A1 c.els.length k1, .slice A2 c.reps.length k2, .slice A3 c.ats.length k3, .slice A4 l.length k4, .bool c.comments, .bool c.dataAttrs] := hsz ▸ hw0 ▸ Hb.new wA _
  have hel := hs.e; have hrl := hs.r; have hpl := hs.p
  have hln : l.length = c.per.length := by have := congrArg List.length h.m; rwa [len_pes] at this
  have hE := h.e.below hb0 (Nat.le_refl _); have hR := h.r.below hb0 (Nat.le_refl _)
  have hME : ∀ b, (Value.slice A1 c.els.length k1).ownBlock = some b → b < wA.heap.size := fun b hb => (World.ownsRow.lt h.e b hb).2
  have hMR : ∀ b, (Value.slice A2 c.reps.length k2).ownBlock = some b → b < wA.heap.size := fun b hb => (World.ownsRow.lt h.r b hb).2
  have HE := Lib.hid hE; have HR := Lib.hid hR; have HME := Lib.hid hME; have HMR := Lib.hid hMR; have HB := Lib.hid hb0; have HW := Lib.hid (rfl : w.alloc (confO c (.slice A1 c.els.length k1) (.slice A2 c.reps.length k2) (.slice A3 c.ats.length k3) (.slice A4 l.length k4)) = w.alloc (confO c (.slice A1 c.els.length k1) (.slice A2 c.reps.length k2) (.slice A3 c.ats.length k3) (.slice A4 l.length k4))); have hs0 := hw0 ▸ hsp0.alloc (confO c (.slice A1 c.els.length k1) (.slice A2 c.reps.length k2) (.slice A3 c.ats.length k3) (.slice A4 l.length k4))
  have HF := Lib.hid (fun x (hx : x ∈ l) => (h.f x hx).below hb0)
  have HMF := Lib.hid (fun x (hx : x ∈ l) (b : Nat) (hb : (Value.slice x.A x.pe.at_.length x.c).ownBlock = some b) => (World.ownsRow.lt (h.f x hx) b hb).2)
  have HP := Lib.hid (h.p.below hb0)
  have HXF := Lib.hid (fun wx (hsp : Sp N wA.heap.size w0 wx) => hx0.keep (hsp.over (Nat.le_of_eq hsz.symm)))
  have hpa : ∀ x ∈ l, x.pe.at_.length ≤ 1000 := fun x hx => hs.pa _ (by rw [← h.m]; exact List.mem_map_of_mem hx)
  have HPA := Lib.hid hpa
  have hln2 : l.length ≤ 1000 := by omega
  clear hsz hsp0 h hs hE hR hME hMR hb0 hw0 hx0 hpa hln
  go_enter Try.func20, Try.ntmps20
  go_upto_region 1 with (fail)
  go_wp2
  go_loopw [2] (fun i wr => ∃ k : Nat, i = .int .i64 k ∧ k ≤ c.els.length ∧ Sp N wA.heap.size w0 wr) (fun i _ => c.els.length - (intOf i).toNat)
  case atStart => exact ⟨0, rfl, Nat.zero_le _, hs0⟩
  case round =>
    clear hs0
    obtain ⟨k, rfl, hk, hsp⟩ := hrel
    have g2 := (HXF.out wr hsp).cell 2 _ rfl
    by_cases hp : k < c.els.length
    · obtain ⟨g, cc, e, ⟨u, hu⟩, hf, hset⟩ := hsp.at_ HE.out HME.out hp
      injection e with e1 e2 e3
      subst e1
      have HS := Lib.hid (hset .empty)
      clear hset hsp
      go_wp2
      go_roundw
      case rel => exact ⟨k + 1, by go_num, by omega, HS.out⟩
      case measure => simp [intOf]; omega
    · have HSP := Lib.hid hsp
      clear hsp
      go_wp2
      go_loopw [3] (fun i wr => ∃ k : Nat, i = .int .i64 k ∧ k ≤ c.reps.length ∧ Sp N wA.heap.size w0 wr) (fun i _ => c.reps.length - (intOf i).toNat)
      case atStart => exact ⟨0, rfl, Nat.zero_le _, HSP.out⟩
      case round =>
        clear HSP g2
        obtain ⟨m, rfl, hm, hsp⟩ := hrel
        have g3 := (HXF.out wr hsp).cell 3 _ rfl
        by_cases hq : m < c.reps.length
        · obtain ⟨g, cc, e, ⟨u, hu⟩, hf, hset⟩ := hsp.at_ HR.out HMR.out hq
          injection e with e1 e2 e3
          subst e1
          have HS := Lib.hid (hset .empty)
          clear hset hsp
          go_wp2
          go_roundw
          case rel => exact ⟨m + 1, by go_num, by omega, HS.out⟩
          case measure => simp [intOf]; omega
        · have HSP := Lib.hid hsp
          clear hsp
          go_wp2
          go_loopw [4, 5] (fun i _ wr => ∃ k : Nat, i = .int .i64 k ∧ k ≤ l.length ∧ Sp N wA.heap.size w0 wr) (fun i _ _ => l.length - (intOf i).toNat)
          case atStart => exact ⟨0, rfl, Nat.zero_le _, HSP.out⟩
          case round =>
            clear HSP g3
            obtain ⟨n, rfl, hn, hsp⟩ := hrel
            have g5 := (HXF.out wr hsp).cell 5 _ rfl
            by_cases hr : n < l.length
            · obtain ⟨x, hxe⟩ : ∃ x, l[n] = x := ⟨_, rfl⟩
              have hxm : x ∈ l := hxe ▸ List.getElem_mem hr
              obtain ⟨gP, hA, hcell⟩ := per_at HP.out hr hxe
              subst hA
              have HCX := Lib.hid (fun wx (h : Sp N wA.heap.size w0 wx) => hcell wx h)
              have gx := hcell wr hsp
              have hxl := HPA.out x hxm
              have HSP := Lib.hid hsp; have HFX := Lib.hid (HF.out x hxm); have HMX := Lib.hid (HMF.out x hxm)
              clear hsp hcell hxe hxm
              go_wp2
              go_loopw [5] (fun j wx => ∃ m : Nat, j = .int .i64 m ∧ m ≤ x.pe.at_.length ∧ Sp N wA.heap.size w0 wx) (fun j _ => x.pe.at_.length - (intOf j).toNat)
              case atStart => exact ⟨0, rfl, Nat.zero_le _, HSP.out⟩
              case round =>
                clear gx g5 HSP
                obtain ⟨m, rfl, hm2, hsp⟩ := hrel
                have g5 := (HXF.out wr hsp).cell 5 _ rfl
                have gx := HCX.out wr hsp
                by_cases hq2 : m < x.pe.at_.length
                · obtain ⟨g, cc, e, ⟨u, hu⟩, hf, hset⟩ := hsp.at_ HFX.out HMX.out hq2
                  injection e with e1 e2 e3
                  rw [e1] at gx
                  have HS := Lib.hid (hset .empty)
                  clear hset hsp
                  go_wp2
                  go_roundw
                  case rel => exact ⟨m + 1, by go_num, by omega, HS.out⟩
                  case measure => simp [intOf]; omega
                · have HSQ := Lib.hid hsp
                  clear hsp
                  go_wp2
                  go_roundw
                  case rel => exact ⟨n + 1, by go_num, by omega, HSQ.out⟩
                  case measure => simp [intOf]; omega
            · have HSP := Lib.hid hsp
              clear hsp
              go_wp2
              go_end0
              exact ⟨rfl, w0, HB.out, HSP.out⟩

end Go.Proofs.Ytgjlfcamgkeibaa.Co

namespace Go.Proofs.Ytgjlfcamgkeibaa.Co
set_option linter.unusedVariables false
set_option linter.unusedSimpArgs false
open Go.RowKit Ba Fm Fo Nm Rk
theorem mem_strip {c : Cf} {s : ByteArray} (h : s ∈ (stripC c).els) : s ∈ c.els ∨ s ∈ unsafeL := by
  have h : s ∈ (if c.allow = true then mns c.els unsafeL else c.els ++ mns unsafeL c.els) := h
  split at h
  · exact .inl (mem_mns.1 h).1
  · rcases List.mem_append.1 h with h | h
    · exact .inl h
    · exact .inr (mem_mns.1 h).1
theorem len_strip (c : Cf) : (stripC c).els.length ≤ c.els.length + 8 := by
  show (if c.allow = true then mns c.els unsafeL else c.els ++ mns unsafeL c.els).length ≤ _
  split
  · exact Nat.le_trans (List.length_filter_le _ _) (by omega)
  · rw [List.length_append]
    have : (mns unsafeL c.els).length ≤ unsafeL.length := List.length_filter_le _ _
    have : unsafeL.length = 8 := rfl
    omega
theorem small_never : ∀ s ∈ unsafeL, s.size ≤ 140737488355328 := fun s hs => Nat.le_trans (of_decide_eq_true (p := s.size ≤ 1000) (List.all_eq_true.1 (show (unsafeL.all fun s => decide (s.size ≤ 1000)) = true by decide +kernel) s hs)) (by omega)
end Go.Proofs.Ytgjlfcamgkeibaa.Co

namespace Go.Proofs.Ytgjlfcamgkeibaa.Fo
set_option linter.unusedSimpArgs false
set_option linter.unusedVariables false
open Go.RowKit Ba Fm
end Go.Proofs.Ytgjlfcamgkeibaa.Fo

namespace Go.Proofs.Ytgjlfcamgkeibaa.Co
set_option linter.unusedVariables false
set_option linter.unusedSimpArgs false
open Go.RowKit Ba Fm Fo Nm Rk
theorem len_flat {α β : Type} (f : α → List β) (m : Nat) : ∀ (l : List α), (∀ x ∈ l, (f x).length ≤ m) → (l.flatMap f).length ≤ l.length * m
  | [], _ => by simp
  | x :: r, h => by
    have h1 := len_flat f m r fun y hy => h y (List.mem_cons_of_mem _ hy)
    have h2 := h x (List.mem_cons_self ..)
    rw [List.flatMap_cons, List.length_append, List.length_cons, Nat.succ_mul]
    omega
theorem len_canon {per : List Pe} (h : per.length ≤ 12) : (canonPer per).length ≤ 1000 := by
  have h1 : (srt lt (per.map Pe.el)).length ≤ 12 := Nat.le_trans (len_srt _ _) (by rw [List.length_map]; exact h)
  have h2 : (canonPer per).length ≤ (srt lt (per.map Pe.el)).length * 12 := len_flat _ 12 _ fun e _ => Nat.le_trans (List.length_filter_le _ _) (by rw [List.length_map]; exact h)
  have h3 := Nat.mul_le_mul_right 12 h1
  omega
theorem sm_canon {c : Cf} (h : Sm c) (hp : c.per.length ≤ 12) : Sm (canonC c) :=
  ⟨Nat.le_trans (len_srt _ _) h.e, Nat.le_trans (len_srt _ _) h.r, Nat.le_trans (len_srt _ _) h.a, len_canon hp, fun p hp => by
    obtain ⟨q, hq, _, rfl⟩ := mem_canon.1 hp
    exact Nat.le_trans (len_srt _ _) (h.pa q hq), fun s hs => h.es s (mem_srt.1 hs), fun s hs => h.rs s (mem_srt.1 hs), fun s hs => h.as_ s (mem_srt.1 hs), fun p hp => by
    obtain ⟨q, hq, _, rfl⟩ := mem_canon.1 hp
    exact ⟨(h.ps q hq).1, fun s hs => (h.ps q hq).2 s (mem_srt.1 hs)⟩⟩
end Go.Proofs.Ytgjlfcamgkeibaa.Co
