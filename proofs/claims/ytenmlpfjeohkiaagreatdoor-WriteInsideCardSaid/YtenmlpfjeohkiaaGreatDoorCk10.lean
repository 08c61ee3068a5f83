/-
  Walks of stage 7: In, Parse.
  Stage 8, in plain words: what is written of clean trees is ready.
  Walks of stage 7: In and Parse of as many bytes as there may be.
  Stage 3: where the package's table reads as its text lays it, the walks' table is there; the door's own heap is such a world.
  Stage 8's law WriteBack: it returns true.
  Stage 8, in plain words: what is cut of clean bytes is clean.
  Stage 8, in plain words: what is parsed comes back.
  Stage 8, in plain words: how long what was parsed is, written.
  Stage 8's law WriteStays: it returns true.
  Stage 8, in plain words: what stands within one node of what was parsed comes back.
-/
import Derived.Test.YtenmlpfjeohkiaaGreatDoorCk09
import Derived.Test.YtenmlpfjeohkiaaGreatDoorCk04
import Derived.Test.YtenmlpfjeohkiaaGreatDoorCk05
import Derived.Test.YtenmlpfjeohkiaaGreatDoorCk08
import Derived.Test.YtenmlpfjeohkiaaGreatDoorCk02
import Derived.ProofKit
import Derived.LaidMore
import Derived.OpenShut
import Derived.Stop.Joined
namespace Go.Proofs.YtenmlpfjeohkiaaGreatDoor.Bu
set_option maxRecDepth 100000
set_option linter.unusedVariables false
set_option linter.unusedSimpArgs false
open Go.RowKit Ba Fm Fo Nm Bm
open Ro (At Ro Cw ros Fr Ow Rv)
open Tm (Tk within bulk bulkT bulkA)
open To (Tw tks)
open Re (Tab)
/-- Bytes made ready. -/
def rdy (l : List UInt8) : List UInt8 := Ch.ln false (Ch.dL l)
theorem len_rdy (l : List UInt8) : (rdy l).length ≤ 3 * l.length := Nat.le_trans (Ch.ln_len _ _) (Ch.len_dL l)
theorem ready1 (s : ByteArray) (w : World) (hs : s.size ≤ 5000) :
    Calls Tryz.prog 31 #[.string s] w fun e w' => e = .returned (.string (B (rdy (L s)))) ∧ Below w.heap.size w w' := by
  have hsz := size_L s
  have hdl := Ch.len_dL (L s)
  refine (Ch.ready_any s w (by omega) (show (Ch.dL (L s)).length ≤ _ from by omega)).mono ?_
  rintro e w1 ⟨rfl, b1⟩
  exact ⟨rfl, b1⟩
theorem dsum_bulk : ∀ l : List Tk, dsum l ≤ bulk l
  | [] => Nat.zero_le _
  | t :: r => by
    have := dsum_bulk r
    show t.data.size + dsum r ≤ (List.map bulkT (t :: r)).sum
    rw [List.map_cons, List.sum_cons]
    have e : bulkT t = t.name.size + t.data.size + bulkA t.attrs + t.attrs.length := rfl
    have e2 : bulk r = (List.map bulkT r).sum := rfl
    omega
/-- What In comes to, and how great it may be. -/
def SaysM (w : World) (r : Option (List Ro)) (e : Ending) (w' : World) : Prop :=
  (match r with
  | none => e = .returned (.tuple #[.slice none 0 0, .int .i64 2])
  | some o => ∃ v y, e = .returned (.tuple #[v, .int .i64 0]) ∧ Rv w' v y ∧ ros y = o ∧ Ro.Few o ∧ (Ro.txt o).length ≤ 1000000000) ∧ Below w.heap.size w w'
/-- What In and Parse come to. -/
def Says (w : World) (r : Option (List Ro)) (e : Ending) (w' : World) : Prop :=
  (match r with
  | none => e = .returned (.tuple #[.slice none 0 0, .int .i64 2])
  | some o => ∃ v y, e = .returned (.tuple #[v, .int .i64 0]) ∧ Rv w' v y ∧ ros y = o) ∧ Below w.heap.size w w'
theorem TreeSays.cases {w w' : World} {t : List Tk} {e : Ending} (h : TreeSays w t e w') :
    (treeB ⟨[], []⟩ t = none ∧ e = .returned (.tuple #[.slice none 0 0, .int .i64 2]) ∧ Below w.heap.size w w') ∨
    (∃ o v y, treeB ⟨[], []⟩ t = some o ∧ e = .returned (.tuple #[v, .int .i64 0]) ∧ Ow w.heap.size w' v y ∧ (∀ z ∈ y, Fr w.heap.size w' z) ∧ ros y = o ∧ (Ro.Few o ∧ (Ro.txt o).length ≤ 1000000000) ∧ Below w.heap.size w w') := by
  obtain ⟨h1, h2⟩ := h
  cases ht : treeB ⟨[], []⟩ t with
  | none => rw [ht] at h1; exact .inl ⟨rfl, h1, h2⟩
  | some o =>
    rw [ht] at h1
    obtain ⟨v, y, e1, e2, e3, e4, e5⟩ := h1
    exact .inr ⟨o, v, y, rfl, e1, e2, e3, e4, e5, h2⟩
theorem good_zero : ∀ {l : List Ro} {p : List ByteArray}, goodFrom p l → ∀ x ∈ l, 0 ≤ x.depth
  | [], p, _, x, h => by cases h
  | y :: l, p, h, x, hx => by
    rcases List.mem_cons.1 hx with e | e
    · rw [e]; exact h.1.1
    · exact good_zero h.2 x e
theorem tree_held {t : List Tk} {o : List Ro} (h : treeB ⟨[], []⟩ t = some o) : Ro.Held o := fun x hx => by
  obtain ⟨h1, _, _, h2⟩ := tree_all h
  have := good_zero h1 x hx
  have := h2.2 x hx
  omega

set_option maxRecDepth 100000 in
set_option maxHeartbeats 1000000 in
theorem In_any (s nm : ByteArray) (w : World) (hs : s.size ≤ 5000) (hn : nm.size ≤ 140737488351232) (hT : Tab w) :
    Calls Tryz.prog 13 #[.string s, .string nm] w fun e w' => SaysM w (treeB ⟨[], []⟩ (within (L nm) (rdy (L s)))) e w' := by
  have h : decide ((65536 : Int) < (s.size : Int)) = false := decide_eq_false (by omega)
  have hsz := size_L s
  have hdl := Ch.len_dL (L s)
  have hrl := len_rdy (L s)
  have HT := Lib.hid hT
  clear hT
  go_enter Tryz.func13, Tryz.ntmps13
  go_wp2_with fail
  refine (ready1 s w hs).mono ?_
  rintro e w1 ⟨rfl, b1⟩
  have hT1 := HT.out.below b1
  have HB1 := Lib.hid b1
  clear b1
  go_wp2_with fail
  refine (To.In_any (B (rdy (L s))) nm w1 (by rw [size_B]; omega) hn hT1).mono ?_
  rintro e w2 ⟨V, l, rfl, ho, hl, b2⟩
  rw [L_B] at hl
  obtain ⟨A, c, rfl, hc, _, _, hr⟩ := ho.form
  have hwl := Tm.within_len (L nm) (rdy (L s))
  have hwb := Tm.bulk_within (L nm) (rdy (L s))
  have hl' : tks l = within (L nm) (rdy (L s)) := hl
  have hll : l.length ≤ 200000 := by rw [← To.len_tks, hl']; omega
  have hds : dsum (tks l) ≤ 1000000000 := by
    have := dsum_bulk (tks l)
    rw [hl'] at this ⊢
    omega
  have hat : ∀ x ∈ l, x.tk.attrs.length ≤ 1000000 := fun x hx => by
    have h1 := Tm.bulk_mem (l := tks l) (t := x.tk) (List.mem_map.2 ⟨x, hx, rfl⟩)
    rw [hl'] at h1
    unfold bulkT at h1
    omega
  have HL := Lib.hid hl'; have HR := Lib.hid hr; have HB2 := Lib.hid (bt HB1.out b2)
  clear hl hl' hr ho b2 hwl hwb hT1 hdl hrl hsz
  go_wp2_with fail
  refine (Tree_any A c l w2 HR.out hc hll hds hat).mono ?_
  intro e w3 h3
  rw [HL.out] at h3
  rcases h3.cases with ⟨ht, rfl, b3⟩ | ⟨o, v, y, ht, rfl, how, hfr, hros, hmi, b3⟩
  · have HTR := Lib.hid ht
    clear ht h3
    go_wp2
    go_ret2
    rw [HTR.out]
    exact ⟨rfl, bt HB2.out b3⟩
  · have HTR := Lib.hid ht; have HO := Lib.hid how; have HRO := Lib.hid hros; have HB3 := Lib.hid (bt HB2.out b3)
    clear ht h3 how hfr hros b3
    go_wp2
    go_ret2
    rw [HTR.out]
    exact ⟨⟨v, y, rfl, HO.out.rv (by rw [HRO.out]; exact tree_held HTR.out), HRO.out, hmi⟩, HB3.out⟩

theorem In1 (s nm : ByteArray) (w : World) (r : Option (List Ro)) (hs : s.size ≤ 5000) (hn : nm.size ≤ 140737488351232) (hT : Tab w) (hr : treeB ⟨[], []⟩ (within (L nm) (rdy (L s))) = r) :
    Calls Tryz.prog 13 #[.string s, .string nm] w fun e w' => Says w r e w' := by
  subst hr
  refine (In_any s nm w hs hn hT).mono ?_
  rintro e w' ⟨h1, h2⟩
  refine ⟨?_, h2⟩
  cases ht : treeB ⟨[], []⟩ (within (L nm) (rdy (L s))) with
  | none => rw [ht] at h1; exact h1
  | some o =>
    rw [ht] at h1
    obtain ⟨v, y, a, b, c, _⟩ := h1
    exact ⟨v, y, a, b, c⟩
theorem Parse1 (s : ByteArray) (w : World) (r : Option (List Ro)) (hs : s.size ≤ 5000) (hT : Tab w) (hr : treeB ⟨[], []⟩ (within [] (rdy (L s))) = r) :
    Calls Tryz.prog 10 #[.string s] w fun e w' => Says w r e w' := by
  go_enter Tryz.func10, Tryz.ntmps10
  go_wp2_with fail
  refine (In1 s _ w r hs (by decide) hT hr).mono ?_
  intro e w1 h1
  cases r with
  | none =>
    obtain ⟨rfl, b1⟩ := h1
    go_wp2
    go_ret2
    exact ⟨rfl, b1⟩
  | some o =>
    obtain ⟨⟨v, y, rfl, hv, hy⟩, b1⟩ := h1
    have HV := Lib.hid hv; have HY := Lib.hid hy
    clear hv hy hr
    go_wp2
    go_ret2
    exact ⟨⟨v, y, rfl, HV.out, HY.out⟩, b1⟩

end Go.Proofs.YtenmlpfjeohkiaaGreatDoor.Bu

namespace Go.Proofs.YtenmlpfjeohkiaaGreatDoor.Wm
set_option linter.unusedVariables false
set_option linter.unusedSimpArgs false
open Ba Fm Rm Nm Bm
open Ro (At Ro)
open Ch (rL)
open Bu (rdy)
open Wr (insideB)
/-- Right, without bytes 0 and 13. -/
def Cl (l : List UInt8) : Prop := rL l = true ∧ (0 : UInt8) ∉ l ∧ (13 : UInt8) ∉ l
theorem cl_nil : Cl [] := ⟨rfl, by simp, by simp⟩
theorem cl_app {a b : List UInt8} (ha : Cl a) (hb : Cl b) : Cl (a ++ b) := by
  refine ⟨?_, fun h => ?_, fun h => ?_⟩
  · rw [(Ch.joins a b ha.1).1]; exact hb.1
  · rcases List.mem_append.1 h with h | h
    · exact ha.2.1 h
    · exact hb.2.1 h
  · rcases List.mem_append.1 h with h | h
    · exact ha.2.2 h
    · exact hb.2.2 h
theorem cl_plain {l : List UInt8} (h : Ch.plain l) : Cl l := ⟨Ch.plain_rL l h, fun e => (h 0 e).2.1 rfl, fun e => (h 13 e).2.2 rfl⟩
theorem cl_rdy {l : List UInt8} (h : Cl l) : rdy l = l := by
  unfold rdy
  rw [Ch.dL_id l h.1 h.2.1, Ch.ln_id l h.2.2]

theorem e1_low (q : Bool) {c : UInt8} (h : c.toNat < 128) (h0 : c ≠ 0) (h13 : c ≠ 13) : Cl (e1 q c) := by
  refine cl_plain fun x hx => ?_
  unfold e1 at hx
  split at hx
  · revert x; decide
  split at hx
  · revert x; decide
  split at hx
  · revert x; decide
  split at hx
  · revert x; decide
  · rw [List.mem_singleton.1 hx]; exact ⟨h, h0, h13⟩
theorem e1_high (q : Bool) {c : UInt8} (h : 128 ≤ c.toNat) : e1 q c = [c] := by
  unfold e1
  have hn : ∀ d : UInt8, d.toNat < 128 → c ≠ d := fun d hd e => by rw [e] at h; omega
  rw [if_neg (hn 38 (by decide)), if_neg (hn 60 (by decide)), if_neg (hn 62 (by decide)), if_neg (fun e => hn 34 (by decide) e.1)]
theorem esc_high (q : Bool) : ∀ (cs t : List UInt8), (∀ x ∈ cs, 128 ≤ x.toNat ∧ x.toNat ≤ 191) → esc q (cs ++ t) = cs ++ esc q t
  | [], t, _ => rfl
  | c :: cs, t, h => by
    have hc := h c List.mem_cons_self
    rw [List.cons_append, esc_byte q (by rintro ⟨rfl, _⟩; exact absurd hc.2 (by decide)), e1_high q hc.1, esc_high q cs t fun x hx => h x (List.mem_cons_of_mem _ hx)]; rfl
theorem at_zero (a : UInt8) (t : List UInt8) : Ch.at' (a :: t) 0 = a.toNat := rfl
theorem at_succ (a : UInt8) (t : List UInt8) (k : Nat) : Ch.at' (a :: t) (k + 1) = Ch.at' t k := by unfold Ch.at'; rw [List.getD_cons_succ]
theorem inn_form {l : List UInt8} {k lo hi : Nat} (h : Ch.inn l k lo hi = true) : k < l.length ∧ lo ≤ Ch.at' l k ∧ Ch.at' l k ≤ hi := by
  unfold Ch.inn at h
  simp only [Bool.and_eq_true, decide_eq_true_eq] at h
  exact h
theorem low_lo (c : Nat) : 128 ≤ Ch.low c := by
  unfold Ch.low
  split
  · omega
  · split <;> omega
theorem high_hi (c : Nat) : Ch.high c ≤ 191 := by
  unfold Ch.high
  split
  · omega
  · split <;> omega
/-- What a character looks like. -/
theorem sz_form {h : UInt8} {l : List UInt8} (hs : Ch.sz (h :: l) ≠ 0) : (Ch.sz (h :: l) = 1 ∧ h.toNat < 128) ∨ (128 ≤ h.toNat ∧ ∃ cs t, l = cs ++ t ∧ Ch.sz (h :: l) = cs.length + 1 ∧ (∀ x ∈ cs, 128 ≤ x.toNat ∧ x.toNat ≤ 191) ∧ cs ≠ [] ∧ (h = 194 → cs.length = 1)) := by
  have hz := low_lo h.toNat
  have hy := high_hi h.toNat
  unfold Ch.sz at hs ⊢
  split at hs
  · rename_i h1
    rw [if_pos h1]
    exact .inl ⟨rfl, h1⟩
  rename_i h1
  rw [if_neg h1]
  have h1' : 128 ≤ h.toNat := by rw [at_zero] at h1; omega
  right
  refine ⟨h1', ?_⟩
  split at hs
  · rename_i h2
    rw [if_pos h2]
    rw [Bool.and_eq_true] at h2
    obtain ⟨k1, k2, k3⟩ := inn_form h2.2
    cases l with
    | nil => exact absurd k1 (by simp)
    | cons a t =>
      simp only [at_succ, at_zero] at k2 k3
      exact ⟨[a], t, rfl, rfl, fun x hx => by rw [List.mem_singleton.1 hx]; exact ⟨k2, k3⟩, by simp, fun _ => rfl⟩
  rename_i h2
  rw [if_neg h2]
  split at hs
  · exact absurd rfl hs
  rename_i h3
  rw [if_neg h3]
  simp only [Bool.or_eq_true, Bool.not_eq_true', not_or, Bool.not_eq_false] at h3
  obtain ⟨k1, k2, k3⟩ := inn_form h3.1
  obtain ⟨m1, m2, m3⟩ := inn_form h3.2
  cases l with
  | nil => exact absurd k1 (by simp)
  | cons a l =>
    cases l with
    | nil => exact absurd m1 (by simp)
    | cons b t =>
      simp only [at_succ, at_zero] at k2 k3
      simp only [at_succ, at_zero] at m2 m3
      split at hs
      · rename_i h4
        rw [if_pos h4]
        rw [at_zero, Bool.and_eq_true, decide_eq_true_iff, decide_eq_true_iff] at h4
        refine ⟨[a, b], t, rfl, rfl, fun x hx => ?_, by simp, fun e => ?_⟩
        · simp only [List.mem_cons, List.not_mem_nil, or_false] at hx
          rcases hx with rfl | rfl
          · exact ⟨by omega, by omega⟩
          · exact ⟨m2, m3⟩
        · rw [e] at h4; exact absurd h4.1 (by decide)
      · rename_i h4
        rw [if_neg h4]
        split at hs
        · rename_i h5
          rw [if_pos h5]
          rw [at_zero, Bool.and_eq_true, Bool.and_eq_true, decide_eq_true_iff, decide_eq_true_iff] at h5
          obtain ⟨n1, n2, n3⟩ := inn_form h5.2
          cases t with
          | nil => exact absurd n1 (by simp)
          | cons d t =>
            simp only [at_succ, at_zero] at n2 n3
            refine ⟨[a, b, d], t, rfl, rfl, fun x hx => ?_, by simp, fun e => ?_⟩
            · simp only [List.mem_cons, List.not_mem_nil, or_false] at hx
              rcases hx with rfl | rfl | rfl
              · exact ⟨by omega, by omega⟩
              · exact ⟨m2, m3⟩
              · exact ⟨n2, n3⟩
            · rw [e] at h5; exact absurd h5.1.1 (by decide)
        · exact absurd rfl hs
theorem cl_esc (q : Bool) (n : Nat) : ∀ l : List UInt8, l.length ≤ n → Cl l → Cl (esc q l) := by
  induction n with
  | zero =>
    intro l h _
    obtain rfl : l = [] := List.eq_nil_of_length_eq_zero (by omega)
    rw [esc_nil]; exact cl_nil
  | succ n ih =>
    intro l h hc
    cases l with
    | nil => rw [esc_nil]; exact cl_nil
    | cons a l =>
      have hne : (a :: l) ≠ [] := List.cons_ne_nil _ _
      have hr := hc.1
      rw [Ch.rL_sz _ hne] at hr
      by_cases hs : Ch.sz (a :: l) = 0
      · rw [if_pos hs] at hr; cases hr
      rw [if_neg hs] at hr
      have h0 : ∀ x ∈ a :: l, x ≠ 0 ∧ x ≠ 13 := fun x hx => ⟨fun e => hc.2.1 (by rwa [e] at hx), fun e => hc.2.2 (by rwa [e] at hx)⟩
      rw [List.length_cons] at h
      rcases sz_form hs with ⟨e1, e2⟩ | ⟨e1, cs, t, rfl, e2, e3, e4, e5⟩
      · rw [e1, List.drop_succ_cons, List.drop_zero] at hr
        have hl : Cl l := ⟨hr, fun e => hc.2.1 (List.mem_cons_of_mem _ e), fun e => hc.2.2 (List.mem_cons_of_mem _ e)⟩
        rw [esc_byte q (by rintro ⟨rfl, _⟩; exact absurd e2 (by decide))]
        exact cl_app (e1_low q e2 (h0 a List.mem_cons_self).1 (h0 a List.mem_cons_self).2) (ih l (by omega) hl)
      · rw [e2, List.drop_succ_cons, List.drop_left] at hr
        have hlt : t.length ≤ n := by rw [List.length_append] at h; omega
        have ht : Cl t := ⟨hr, fun e => hc.2.1 (List.mem_cons_of_mem _ (List.mem_append_right _ e)), fun e => hc.2.2 (List.mem_cons_of_mem _ (List.mem_append_right _ e))⟩
        by_cases hn : a = 194 ∧ (cs ++ t).head? = some 160
        · obtain ⟨rfl, hn2⟩ := hn
          have hl1 := e5 rfl
          match cs, hl1 with
          | [b], _ =>
            have hb : b = 160 := by simpa using hn2
            subst hb
            show Cl (esc q (194 :: 160 :: t))
            rw [esc_nbsp]
            exact cl_app (cl_plain (by unfold Ch.plain; decide)) (ih t hlt ht)
        · rw [esc_byte q hn, e1_high q e1, esc_high q cs t e3]
          obtain ⟨c, r, t', f1, f2, f3⟩ := Ch.sz_good _ hne hs
          have hcc : c = a :: cs := by
            have hlen : c.length = (a :: cs).length := by rw [← f3, e2]; rfl
            have : (a :: cs) ++ t = c ++ t' := f1
            exact (List.append_inj_left this.symm hlen)
          have hgood : Cl ((a :: cs) ++ esc q t) := by
            have ie := ih t hlt ht
            refine ⟨by rw [← hcc, Ch.rL_good f2]; exact ie.1, fun hx => ?_, fun hx => ?_⟩
            · rcases List.mem_append.1 hx with hx | hx
              · exact hc.2.1 (by rcases List.mem_cons.1 hx with e | e; exact e ▸ List.mem_cons_self; exact List.mem_cons_of_mem _ (List.mem_append_left _ e))
              · exact ie.2.1 hx
            · rcases List.mem_append.1 hx with hx | hx
              · exact hc.2.2 (by rcases List.mem_cons.1 hx with e | e; exact e ▸ List.mem_cons_self; exact List.mem_cons_of_mem _ (List.mem_append_left _ e))
              · exact ie.2.2 hx
          exact hgood

/-- What a row has is clean. -/
def RowCl (x : Ro) : Prop := (x.kind = 0 → Cl (L x.name) ∧ ∀ a ∈ x.attrs, Cl (L a.name) ∧ Cl (L a.value)) ∧ (x.kind ≠ 0 → Cl (L x.data))
theorem cl_attrs : ∀ l : List At, (∀ a ∈ l, Cl (L a.name) ∧ Cl (L a.value)) → Cl (l.flatMap wA)
  | [], _ => cl_nil
  | a :: r, h => by
    obtain ⟨h1, h2⟩ := h a List.mem_cons_self
    rw [List.flatMap_cons]
    refine cl_app ?_ (cl_attrs r fun b hb => h b (List.mem_cons_of_mem _ hb))
    unfold wA
    exact cl_app (cl_plain (by unfold Ch.plain; decide)) (cl_app h1 (cl_app (cl_plain (by unfold Ch.plain; decide)) (cl_app (cl_esc true _ _ (Nat.le_refl _) h2) (cl_plain (by unfold Ch.plain; decide)))))
theorem cl_node (raw : Bool) {x : Ro} (h : RowCl x) : Cl (node raw x) := by
  unfold node
  split
  · rename_i hk
    obtain ⟨h1, h2⟩ := h.1 hk
    unfold tagW
    exact cl_app (cl_app (cl_app (cl_plain (by unfold Ch.plain; decide)) h1) (cl_attrs _ h2)) (cl_plain (by unfold Ch.plain; decide))
  · rename_i hk
    have hd := h.2 hk
    split
    · split
      · exact hd
      · exact cl_esc false _ _ (Nat.le_refl _) hd
    · split
      · exact cl_app (cl_app (cl_plain (by unfold Ch.plain; decide)) hd) (cl_plain (by unfold Ch.plain; decide))
      · exact cl_nil
theorem cl_end {x : Ro} (h : RowCl x) (hh : holds x = true) : Cl (endW x) := by
  unfold endW
  exact cl_app (cl_app (cl_plain (by unfold Ch.plain; decide)) (h.1 (holds_kind hh).1).1) (cl_plain (by unfold Ch.plain; decide))
theorem cl_wr (n : Nat) : ∀ (l : List Ro) (raw : Bool), l.length ≤ n → (∀ x ∈ l, RowCl x) → Cl (wr raw l) := by
  induction n with
  | zero =>
    intro l raw h _
    obtain rfl : l = [] := List.eq_nil_of_length_eq_zero (by omega)
    rw [wr_nil]; exact cl_nil
  | succ n ih =>
    intro l raw h hc
    cases l with
    | nil => rw [wr_nil]; exact cl_nil
    | cons x r =>
      have hp := len_parts x r
      have hib := inn_beh x r
      rw [List.length_cons] at h
      rw [wr_cons]
      have hx := hc x List.mem_cons_self
      refine cl_app (cl_node raw hx) (cl_app ?_ (ih (beh x r) raw (by omega) fun y hy => hc y (List.mem_cons_of_mem _ (by rw [← hib]; exact List.mem_append_right _ hy))))
      split
      · rename_i hh
        exact cl_app (ih (inn x r) _ (by omega) fun y hy => hc y (List.mem_cons_of_mem _ (by rw [← hib]; exact List.mem_append_left _ hy))) (cl_end hx hh)
      · exact cl_nil
theorem len_toks (n : Nat) : ∀ l : List Ro, l.length ≤ n → (toks l).length ≤ 2 * l.length := by
  induction n with
  | zero =>
    intro l h
    obtain rfl : l = [] := List.eq_nil_of_length_eq_zero (by omega)
    rw [toks_nil]; exact Nat.le_refl _
  | succ n ih =>
    intro l h
    cases l with
    | nil => rw [toks_nil]; exact Nat.le_refl _
    | cons x r =>
      have hp := len_parts x r
      rw [List.length_cons] at h
      have h1 := ih (inn x r) (by omega)
      have h2 := ih (beh x r) (by omega)
      rw [toks_cons, List.length_cons, List.length_append, List.length_cons]
      split
      · rw [List.length_append]
        simp only [List.length_cons, List.length_nil]
        omega
      · simp only [List.length_nil]
        omega
end Go.Proofs.YtenmlpfjeohkiaaGreatDoor.Wm

namespace Go.Proofs.YtenmlpfjeohkiaaGreatDoor.Bu
set_option maxRecDepth 100000
set_option linter.unusedVariables false
set_option linter.unusedSimpArgs false
open Go.RowKit Ba Fm Fo Nm Bm
open Ro (At Ro Cw ros Fr Ow Rv cells)
open Tm (Tk within bulk bulkT bulkA)
open To (Tw tks)
open Re (Tab)
theorem readyW (s : ByteArray) (w : World) (hs : s.size ≤ 65536) :
    Calls Tryz.prog 31 #[.string s] w fun e w' => e = .returned (.string (B (rdy (L s)))) ∧ Below w.heap.size w w' := by
  have hsz := size_L s
  have hdl := Ch.len_dL (L s)
  refine (Ch.ready_any s w (by omega) (show (Ch.dL (L s)).length ≤ _ from by omega)).mono ?_
  rintro e w1 ⟨rfl, b1⟩
  exact ⟨rfl, b1⟩
set_option maxRecDepth 100000 in
set_option maxHeartbeats 1000000 in
theorem InW_any (s nm : ByteArray) (w : World) (hs : s.size ≤ 65536) (hn : nm.size ≤ 140737488351232) (hT : Tab w) (hwl : (within (L nm) (rdy (L s))).length ≤ 200000) :
    Calls Tryz.prog 13 #[.string s, .string nm] w fun e w' => SaysM w (treeB ⟨[], []⟩ (within (L nm) (rdy (L s)))) e w' := by
  have h : decide ((65536 : Int) < (s.size : Int)) = false := decide_eq_false (by omega)
  have hsz := size_L s
  have hdl := Ch.len_dL (L s)
  have hrl := len_rdy (L s)
  have HT := Lib.hid hT
  clear hT
  go_enter Tryz.func13, Tryz.ntmps13
  go_wp2_with fail
  refine (readyW s w hs).mono ?_
  rintro e w1 ⟨rfl, b1⟩
  have hT1 := HT.out.below b1
  have HB1 := Lib.hid b1
  clear b1
  go_wp2_with fail
  refine (To.In_any (B (rdy (L s))) nm w1 (by rw [size_B]; omega) hn hT1).mono ?_
  rintro e w2 ⟨V, l, rfl, ho, hl, b2⟩
  rw [L_B] at hl
  obtain ⟨A, c, rfl, hc, _, _, hr⟩ := ho.form
  have hwb := Tm.bulk_within (L nm) (rdy (L s))
  have hl' : tks l = within (L nm) (rdy (L s)) := hl
  have hll : l.length ≤ 200000 := by rw [← To.len_tks, hl']; omega
  have hds : dsum (tks l) ≤ 1000000000 := by
    have := dsum_bulk (tks l)
    rw [hl'] at this ⊢
    omega
  have hat : ∀ x ∈ l, x.tk.attrs.length ≤ 1000000 := fun x hx => by
    have h1 := Tm.bulk_mem (l := tks l) (t := x.tk) (List.mem_map.2 ⟨x, hx, rfl⟩)
    rw [hl'] at h1
    unfold bulkT at h1
    omega
  have HL := Lib.hid hl'; have HR := Lib.hid hr; have HB2 := Lib.hid (bt HB1.out b2)
  clear hl hl' hr ho b2 hwb hT1 hdl hrl hsz hwl
  go_wp2_with fail
  refine (Tree_any A c l w2 HR.out hc hll hds hat).mono ?_
  intro e w3 h3
  rw [HL.out] at h3
  rcases h3.cases with ⟨ht, rfl, b3⟩ | ⟨o, v, y, ht, rfl, how, hfr, hros, hmi, b3⟩
  · have HTR := Lib.hid ht
    clear ht h3
    go_wp2
    go_ret2
    rw [HTR.out]
    exact ⟨rfl, bt HB2.out b3⟩
  · have HTR := Lib.hid ht; have HO := Lib.hid how; have HRO := Lib.hid hros; have HB3 := Lib.hid (bt HB2.out b3)
    clear ht h3 how hfr hros b3
    go_wp2
    go_ret2
    rw [HTR.out]
    exact ⟨⟨v, y, rfl, HO.out.rv (by rw [HRO.out]; exact tree_held HTR.out), HRO.out, hmi⟩, HB3.out⟩

theorem InW1 (s nm : ByteArray) (w : World) (r : Option (List Ro)) (hs : s.size ≤ 65536) (hn : nm.size ≤ 140737488351232) (hT : Tab w) (hwl : (within (L nm) (rdy (L s))).length ≤ 200000) (hr : treeB ⟨[], []⟩ (within (L nm) (rdy (L s))) = r) :
    Calls Tryz.prog 13 #[.string s, .string nm] w fun e w' => Says w r e w' := by
  subst hr
  refine (InW_any s nm w hs hn hT hwl).mono ?_
  rintro e w' ⟨h1, h2⟩
  refine ⟨?_, h2⟩
  cases ht : treeB ⟨[], []⟩ (within (L nm) (rdy (L s))) with
  | none => rw [ht] at h1; exact h1
  | some o =>
    rw [ht] at h1
    obtain ⟨v, y, a, b, c, _⟩ := h1
    exact ⟨v, y, a, b, c⟩
end Go.Proofs.YtenmlpfjeohkiaaGreatDoor.Bu

namespace Go.Proofs.YtenmlpfjeohkiaaGreatDoor.Re
set_option maxRecDepth 100000
set_option linter.unusedSimpArgs false
set_option linter.unusedVariables false
open Go.ChangeShapes Go.WideShapes Go.ChangeAt Go.RowKit Ba Rm
abbrev laidL : List (String × DataW Unit) := [("bolting/refs.named", Rows.laid_bolting_refs_named)]
theorem gNamed : Tryz.prog.globalNamed "bolting/refs.named" = some 0 := by kernel_rfl
theorem tNamed : (Tryz.prog.globals[0]?).map (·.type) = some 108 := by kernel_rfl
theorem datum : (Rows.laid_bolting_refs_named : DataW Unit) = .agg (tab.map fun p => .agg [.lit (.string p.1), .lit (.int .i64 p.2)]) := by kernel_rfl
theorem c34 : Tryz.prog.cellsOf 107 = 2 := by kernel_rfl
theorem c9 : Tryz.prog.cellsOf 9 = 1 := by kernel_rfl
theorem c3 : Tryz.prog.cellsOf 3 = 1 := by kernel_rfl

theorem door_met (os : Os) (args : Array Value) : laidMetH Tryz.prog laidL ((World.doorLaid Tryz.prog 400 os).forCall (fun _ _ => 0) ⟨#[], args, []⟩).memory :=
  laidMetH_of_parts3 (fuel := 8) (laidMet_of_run' 8 (by kernel_rfl) (by kernel_rfl)) (by kernel_rfl) (by kernel_rfl)

theorem pair_at {W : World} {enc : TypeId × Value → Unit} {sp : Nat → Bool} {hd : Bool} {m : Nat} {cs : List Value} {x : DataW Unit × List MemPlace} {p : List UInt8 × Nat}
    (h : DataW.trod enc Tryz.prog W 0 sp hd m 107 cs = some x) (e : x.1 = .agg [.lit (.string p.1), .lit (.int .i64 p.2)]) : cs = [.string (B p.1), .int .i64 p.2] := by
  obtain ⟨y0, y1, n, rfl, hl, h0, h1⟩ := trod_struct2 Tryz.underlying107 h
  rw [c34] at hl
  simp only [DataW.agg.injEq, List.cons.injEq, and_true] at e
  obtain ⟨e0, e1⟩ := e
  obtain ⟨s, q0, rfl, _⟩ := DataW.trod_string Tryz.underlying9 h0
  obtain ⟨k, q1, rfl, _⟩ := DataW.trod_int Tryz.underlying3 h1
  simp only [DataW.lit.injEq, Lit.string.injEq, Lit.int.injEq, true_and] at e0 e1
  have q0' : (cs.drop 0).take 1 = [.string s] := by rw [← q0]; rw [show Tryz.prog.cellsOf _ = 1 from c9]
  have q1' : (cs.drop 1).take 1 = [.int .i64 k] := by rw [← q1]; rw [show Tryz.prog.cellsOf _ = 1 from c3]
  match cs, hl, q0', q1' with
  | [a, b], _, q0', q1' =>
    simp at q0' q1'
    rw [q0', q1', e1, show s = B p.1 from B_of e0]

set_option maxRecDepth 100000 in
theorem tab_of_laid {W : World} (h : laidMetH Tryz.prog laidL W) : Tab W := by
  rw [MakeChecks.laidMetH_plain _ _ _ (by kernel_rfl)] at h
  obtain ⟨ps, ⟨g0, t0, cs0, f0, p0, q0, hg0, ht0, hv0, hd0, _, _⟩, _, _⟩ := h
  obtain rfl := Option.some.inj (gNamed.symm.trans hg0)
  obtain rfl := Option.some.inj (tNamed.symm.trans ht0)
  rw [datum] at hd0
  obtain ⟨xs, m, rfl, hx, hlen, hn, hel⟩ := DataW.trod_array Tryz.underlying108 hd0
  simp only [Prod.mk.injEq, DataW.agg.injEq] at hx
  have hc : ∀ i, i < 24 → ∀ p, tab[i]? = some p → (cs0.toList.drop (2 * i)).take 2 = [.string (B p.1), .int .i64 p.2] := by
    intro i hi p hp
    have h1 := hel i hi
    rw [c34, Nat.mul_comm i 2] at h1
    have hxi : i < xs.length := by omega
    rw [List.getElem?_eq_getElem hxi] at h1
    refine pair_at h1 ?_
    have h2 := congrArg (fun l => l[i]?) hx.1
    simp only [List.getElem?_map, hp, Option.map_some, List.getElem?_eq_getElem hxi, Option.some.injEq] at h2
    exact h2.symm
  have hcell : ∀ j v, (cellsOf2 tab)[j]? = some v → W.cell? ⟨0, j, none⟩ = some v := by
    intro j v hv
    rw [World.var?_cell hg0 hv0 j, ← Array.getElem?_toList]
    have hj : j < 48 := (List.getElem?_eq_some_iff.1 hv).1
    have hi : j / 2 < 24 := by omega
    obtain ⟨p, hp⟩ : ∃ p, tab[j / 2]? = some p := ⟨_, List.getElem?_eq_getElem (show j / 2 < tab.length from hi)⟩
    have h1 := hc (j / 2) hi p hp
    have h2 : ((cellsOf2 tab).drop (2 * (j / 2))).take 2 = [.string (B p.1), .int .i64 p.2] := by
      rw [cellsOf2_drop]
      have : tab.drop (j / 2) = p :: tab.drop (j / 2 + 1) := by
        rw [List.drop_eq_getElem_cons (show j / 2 < tab.length from hi)]
        congr 1
        rw [List.getElem?_eq_getElem (show j / 2 < tab.length from hi)] at hp
        exact Option.some.inj hp
      rw [this]; rfl
    have h3 : ∀ l : List Value, ((l.drop (2 * (j / 2))).take 2)[j % 2]? = l[j]? := fun l => by
      rw [List.getElem?_take_of_lt (by omega), List.getElem?_drop]
      congr 1
      omega
    rw [← h3, h1, ← h2, h3]
    exact hv
  refine ⟨fun j v hv => by rw [Nat.zero_add]; exact hcell j v hv, ?_⟩
  have h0 := hcell 0 (.string (B [97, 109, 112])) rfl
  cases hz : W.heap.size with
  | succ n => omega
  | zero =>
    have : W.heap[0]? = none := Array.getElem?_eq_none (by omega)
    simp [World.cell?, this] at h0

end Go.Proofs.YtenmlpfjeohkiaaGreatDoor.Re

namespace Go.Proofs.YtenmlpfjeohkiaaGreatDoor.Wm
set_option maxRecDepth 100000
set_option linter.unusedVariables false
set_option linter.unusedSimpArgs false
open Ba Fm Rm Nm Bm
open Ro (At Ro)
open Bu (rdy)
open Wr (insideB)
end Go.Proofs.YtenmlpfjeohkiaaGreatDoor.Wm
namespace Go.Proofs.YtenmlpfjeohkiaaGreatDoor.Wr
set_option maxRecDepth 100000
set_option linter.unusedVariables false
set_option linter.unusedSimpArgs false
open Go.RowKit Ba Fm Fo Nm Wm Bm
open Ro (At Ro Cw ros rowO rowV below_new range2 range5 cells Rv bare rows_new refSame1)
open Re (Tab)
open Bu (Says rdy)
end Go.Proofs.YtenmlpfjeohkiaaGreatDoor.Wr

namespace Go.Proofs.YtenmlpfjeohkiaaGreatDoor.Wm
set_option linter.unusedVariables false
set_option linter.unusedSimpArgs false
open Ba Fm Rm Nm Bm
open Ro (At Ro)
open Ch (rL)
open Bu (rdy)
open Tm (lead trail by1 pre Tk tx txt comm cend isEnd)
theorem good_of {h : UInt8} {cs t : List UInt8} (hs : Ch.sz (h :: (cs ++ t)) = cs.length + 1) : ∃ r, Ch.Good (h :: cs) r := by
  obtain ⟨c, r, t', f1, f2, f3⟩ := Ch.sz_good (h :: (cs ++ t)) (List.cons_ne_nil _ _) (by omega)
  have hlen : c.length = (h :: cs).length := by rw [← f3, hs]; rfl
  have : (h :: cs) ++ t = c ++ t' := f1
  exact ⟨r, (List.append_inj_left this hlen.symm) ▸ f2⟩
/-- A right text cut ahead of a byte below 128. -/
theorem right_cut (n : Nat) : ∀ a b : List UInt8, a.length ≤ n → rL (a ++ b) = true → (∀ c, b.head? = some c → c.toNat < 128) → rL a = true ∧ rL b = true := by
  induction n with
  | zero =>
    intro a b h hr _
    obtain rfl : a = [] := List.eq_nil_of_length_eq_zero (by omega)
    exact ⟨rfl, hr⟩
  | succ n ih =>
    intro a b h hr hb
    cases a with
    | nil => exact ⟨rfl, hr⟩
    | cons x a =>
      rw [List.length_cons] at h
      rw [List.cons_append, Ch.rL_sz _ (List.cons_ne_nil _ _)] at hr
      by_cases hs : Ch.sz (x :: (a ++ b)) = 0
      · rw [if_pos hs] at hr; cases hr
      rw [if_neg hs] at hr
      rcases sz_form hs with ⟨e1, e2⟩ | ⟨e1, cs, t, e0, e2, e3, e4, e5⟩
      · rw [e1, List.drop_succ_cons, List.drop_zero] at hr
        obtain ⟨h1, h2⟩ := ih a b (by omega) hr hb
        refine ⟨?_, h2⟩
        have := Ch.rL_good (Ch.good1 x e2) a
        rw [show [x] ++ a = x :: a from rfl] at this
        rw [this]; exact h1
      · rw [e0] at hr e2
        rw [e2, List.drop_succ_cons, List.drop_left] at hr
        obtain ⟨r, hg⟩ := good_of e2
        by_cases hl : cs.length ≤ a.length
        · have e6 : cs = a.take cs.length := by
            have := congrArg (List.take cs.length) e0
            rw [List.take_append_of_le_length hl, List.take_left] at this
            exact this.symm
          have e7 : t = a.drop cs.length ++ b := by
            have := congrArg (List.drop cs.length) e0
            rw [List.drop_append_of_le_length hl, List.drop_left] at this
            exact this.symm
          rw [e7] at hr
          obtain ⟨h1, h2⟩ := ih (a.drop cs.length) b (by rw [List.length_drop]; omega) hr hb
          refine ⟨?_, h2⟩
          have h3 := Ch.rL_good hg (a.drop cs.length)
          have h4 : x :: a = x :: cs ++ a.drop cs.length := by
            rw [List.cons_append]
            congr 1
            conv => lhs; rw [← List.take_append_drop cs.length a]
            rw [← e6]
          rw [h4, h3]; exact h1
        · exfalso
          cases b with
          | nil =>
            have := congrArg List.length e0
            rw [List.append_nil, List.length_append] at this
            omega
          | cons c b =>
            have h1 := hb c rfl
            have h2 : (cs ++ t)[a.length]? = some c := by
              rw [← e0, List.getElem?_append_right (Nat.le_refl _), Nat.sub_self]; rfl
            rw [List.getElem?_append_left (by omega)] at h2
            have := (e3 c (List.mem_of_getElem? h2)).1
            omega
theorem cl_cut {a b : List UInt8} (h : Cl (a ++ b)) (hb : ∀ c, b.head? = some c → c.toNat < 128) : Cl a ∧ Cl b := by
  obtain ⟨h1, h2⟩ := right_cut a.length a b (Nat.le_refl _) h.1 hb
  exact ⟨⟨h1, fun e => h.2.1 (List.mem_append_left _ e), fun e => h.2.2 (List.mem_append_left _ e)⟩, ⟨h2, fun e => h.2.1 (List.mem_append_right _ e), fun e => h.2.2 (List.mem_append_right _ e)⟩⟩
theorem cl_tail {c : UInt8} {r : List UInt8} (h : Cl (c :: r)) (hc : c.toNat < 128) : Cl r := by
  refine ⟨?_, fun e => h.2.1 (List.mem_cons_of_mem _ e), fun e => h.2.2 (List.mem_cons_of_mem _ e)⟩
  have := Ch.rL_good (Ch.good1 c hc) r
  rw [← this]
  exact h.1
theorem cl_drop {l : List UInt8} (h : Cl l) : ∀ n, (∀ c ∈ l.take n, c.toNat < 128) → Cl (l.drop n) := by
  intro n
  induction n generalizing l with
  | zero => intro _; rw [List.drop_zero]; exact h
  | succ n ih =>
    intro hc
    cases l with
    | nil => exact h
    | cons c r =>
      rw [List.drop_succ_cons]
      exact ih (cl_tail h (hc c (by simp))) fun d hd => hc d (by rw [List.take_succ_cons]; exact List.mem_cons_of_mem _ hd)
/-- What begins so begins with a byte below 128. -/
def Asc (p : List UInt8 → Bool) : Prop := ∀ l, p l = true → ∀ c, l.head? = some c → c.toNat < 128
theorem cl_lead {p : List UInt8 → Bool} (hp : Asc p) {l : List UInt8} (h : Cl l) : Cl (lead p l) ∧ Cl (trail p l) := by
  rw [← Tm.lead_trail p l] at h
  refine cl_cut h fun c hc => ?_
  rcases Tm.trail_cases p l with e | e
  · rw [e] at hc; cases hc
  · exact hp _ e c hc
theorem asc_by1 {q : UInt8 → Bool} (hq : ∀ c, q c = true → c.toNat < 128) : Asc (by1 q) := fun l h c hc => by
  cases l with
  | nil => cases hc
  | cons d r =>
    injection hc with hc
    subst hc
    exact hq _ h
theorem asc_pre {a : UInt8} {t : List UInt8} (ha : a.toNat < 128) : Asc (pre (a :: t)) := fun l h c hc => by
  cases l with
  | nil => cases hc
  | cons d r =>
    injection hc with hc
    subst hc
    rw [Tm.pre_cons, Bool.and_eq_true, decide_eq_true_iff] at h
    rw [h.1]; exact ha
theorem sp_asc {c : UInt8} (h : sp c = true) : c.toNat < 128 := by
  unfold sp at h
  simp only [Bool.or_eq_true, beq_iff_eq] at h
  rcases h with (((h | h) | h) | h) | h <;> (rw [h]; decide)
theorem ev_asc {c : UInt8} (h : Tm.ev c = true) : c.toNat < 128 := by
  unfold Tm.ev at h
  rw [Bool.or_eq_true, beq_iff_eq] at h
  rcases h with h | h
  · rw [h]; decide
  · exact sp_asc h
theorem en_asc {c : UInt8} (h : Tm.en c = true) : c.toNat < 128 := by
  unfold Tm.en at h
  rw [Bool.or_eq_true, beq_iff_eq] at h
  rcases h with h | h
  · rw [h]; decide
  · exact ev_asc h
theorem ea_asc {c : UInt8} (h : Tm.ea c = true) : c.toNat < 128 := by
  unfold Tm.ea at h
  rw [Bool.or_eq_true, beq_iff_eq] at h
  rcases h with h | h
  · rw [h]; decide
  · exact en_asc h

/-- Small letters of clean bytes. -/
theorem low_asc {c : UInt8} (h : c.toNat < 128) (h0 : c ≠ 0) (h13 : c ≠ 13) : (low c).toNat < 128 ∧ low c ≠ 0 ∧ low c ≠ 13 := by
  unfold low
  split
  · rename_i hc
    rw [UInt8.le_iff_toNat_le, UInt8.le_iff_toNat_le] at hc
    have h1 : (65 : UInt8).toNat = 65 := rfl
    have h2 : (90 : UInt8).toNat = 90 := rfl
    have e : (c + 32).toNat = c.toNat + 32 := by
      rw [UInt8.toNat_add]
      have : (32 : UInt8).toNat = 32 := rfl
      omega
    refine ⟨by omega, fun h => ?_, fun h => ?_⟩
    · rw [h] at e; have : (0 : UInt8).toNat = 0 := rfl; omega
    · rw [h] at e; have : (13 : UInt8).toNat = 13 := rfl; omega
  · exact ⟨h, h0, h13⟩
theorem low_high {c : UInt8} (h : 128 ≤ c.toNat) : low c = c := by
  unfold low
  rw [if_neg]
  intro hc
  rw [UInt8.le_iff_toNat_le, UInt8.le_iff_toNat_le] at hc
  have h2 : (90 : UInt8).toNat = 90 := rfl
  omega
theorem cl_low (n : Nat) : ∀ l : List UInt8, l.length ≤ n → Cl l → Cl (lowL l) := by
  induction n with
  | zero =>
    intro l h hc
    obtain rfl : l = [] := List.eq_nil_of_length_eq_zero (by omega)
    exact hc
  | succ n ih =>
    intro l h hc
    cases l with
    | nil => exact hc
    | cons x l =>
      rw [List.length_cons] at h
      have hr := hc.1
      rw [Ch.rL_sz _ (List.cons_ne_nil _ _)] at hr
      by_cases hs : Ch.sz (x :: l) = 0
      · rw [if_pos hs] at hr; cases hr
      rw [if_neg hs] at hr
      have hx0 : x ≠ 0 := fun e => hc.2.1 (e ▸ List.mem_cons_self)
      have hx13 : x ≠ 13 := fun e => hc.2.2 (e ▸ List.mem_cons_self)
      rcases sz_form hs with ⟨e1, e2⟩ | ⟨e1, cs, t, rfl, e2, e3, e4, e5⟩
      · have hl := cl_tail hc e2
        show Cl (low x :: lowL l)
        exact cl_app (a := [low x]) (cl_plain fun y hy => by rw [List.mem_singleton.1 hy]; exact low_asc e2 hx0 hx13) (ih l (by omega) hl)
      · rw [e2, List.drop_succ_cons, List.drop_left] at hr
        have ht : Cl t := ⟨hr, fun e => hc.2.1 (List.mem_cons_of_mem _ (List.mem_append_right _ e)), fun e => hc.2.2 (List.mem_cons_of_mem _ (List.mem_append_right _ e))⟩
        have ie := ih t (by rw [List.length_append] at h; omega) ht
        obtain ⟨r, hg⟩ := good_of e2
        have hlow : lowL (x :: (cs ++ t)) = (x :: cs) ++ lowL t := by
          unfold lowL
          rw [List.map_cons, List.map_append, low_high e1, List.cons_append]
          congr 2
          exact (List.map_congr_left fun y hy => low_high (e3 y hy).1).trans (List.map_id _)
        rw [hlow]
        refine ⟨by rw [Ch.rL_good hg]; exact ie.1, fun e => ?_, fun e => ?_⟩
        · rcases List.mem_append.1 e with e | e
          · exact hc.2.1 (by rw [← List.cons_append]; exact List.mem_append_left _ e)
          · exact ie.2.1 e
        · rcases List.mem_append.1 e with e | e
          · exact hc.2.2 (by rw [← List.cons_append]; exact List.mem_append_left _ e)
          · exact ie.2.2 e

/-- Characters' bytes. -/
theorem nat_u8 {n : Nat} (h : n < 256) : (UInt8.ofNat n).toNat = n := by
  rw [UInt8.toNat_ofNat']
  exact Nat.mod_eq_of_lt h
theorem cl_good {c : List UInt8} {r : Nat} (h : Ch.Good c r) (h0 : (0 : UInt8) ∉ c) (h13 : (13 : UInt8) ∉ c) : Cl c := by
  refine ⟨?_, h0, h13⟩
  have := Ch.rL_good h []
  rw [List.append_nil] at this
  rw [this]; rfl
theorem not_small {c : List UInt8} {d : UInt8} (hd : d.toNat < 128) (h : ∀ x ∈ c, 128 ≤ x.toNat) : d ∉ c := fun e => by
  have := h d e
  omega
theorem cl_enc {n : Nat} (h1 : 1 ≤ n) (h2 : n ≤ 1114111) (h3 : n < 55296 ∨ 57344 ≤ n) (h4 : n ≠ 13) : Cl (enc n) := by
  unfold enc
  split
  · rename_i hn
    have e := nat_u8 (n := n) (by omega)
    refine cl_plain fun x hx => ?_
    rw [List.mem_singleton.1 hx]
    refine ⟨by omega, fun h => ?_, fun h => ?_⟩
    · rw [h] at e; have : (0 : UInt8).toNat = 0 := rfl; omega
    · rw [h] at e; have : (13 : UInt8).toNat = 13 := rfl; omega
  split
  · have ea := nat_u8 (n := 192 + n / 64) (by omega)
    have eb := nat_u8 (n := 128 + n % 64) (by omega)
    have hall : ∀ x ∈ [UInt8.ofNat (192 + n / 64), UInt8.ofNat (128 + n % 64)], 128 ≤ x.toNat := fun x hx => by
      simp only [List.mem_cons, List.not_mem_nil, or_false] at hx
      rcases hx with rfl | rfl <;> omega
    exact cl_good (Ch.good2 _ _ (by omega) (by omega) (by omega) (by omega)) (not_small (by decide) hall) (not_small (by decide) hall)
  split
  · have ea := nat_u8 (n := 224 + n / 4096) (by omega)
    have eb := nat_u8 (n := 128 + n / 64 % 64) (by omega)
    have ec := nat_u8 (n := 128 + n % 64) (by omega)
    have hall : ∀ x ∈ [UInt8.ofNat (224 + n / 4096), UInt8.ofNat (128 + n / 64 % 64), UInt8.ofNat (128 + n % 64)], 128 ≤ x.toNat := fun x hx => by
      simp only [List.mem_cons, List.not_mem_nil, or_false] at hx
      rcases hx with rfl | rfl | rfl <;> omega
    refine cl_good (Ch.good3 _ _ _ (by omega) (by omega) ?_ ?_ (by omega) (by omega)) (not_small (by decide) hall) (not_small (by decide) hall)
    · rw [ea, eb]; unfold Ch.low; split
      · omega
      · split <;> omega
    · rw [ea, eb]; unfold Ch.high; split
      · omega
      · split <;> omega
  · have ea := nat_u8 (n := 240 + n / 262144) (by omega)
    have eb := nat_u8 (n := 128 + n / 4096 % 64) (by omega)
    have ec := nat_u8 (n := 128 + n / 64 % 64) (by omega)
    have ed := nat_u8 (n := 128 + n % 64) (by omega)
    have hall : ∀ x ∈ [UInt8.ofNat (240 + n / 262144), UInt8.ofNat (128 + n / 4096 % 64), UInt8.ofNat (128 + n / 64 % 64), UInt8.ofNat (128 + n % 64)], 128 ≤ x.toNat := fun x hx => by
      simp only [List.mem_cons, List.not_mem_nil, or_false] at hx
      rcases hx with rfl | rfl | rfl | rfl <;> omega
    refine cl_good (Ch.good4 _ _ _ _ (by omega) (by omega) ?_ ?_ (by omega) (by omega) (by omega) (by omega)) (not_small (by decide) hall) (not_small (by decide) hall)
    · rw [ea, eb]; unfold Ch.low; split
      · omega
      · split <;> omega
    · rw [ea, eb]; unfold Ch.high; split
      · omega
      · split <;> omega
theorem cl_code (n : Int) : Cl (code n) := by
  unfold code
  cases hb : bad n with
  | true => rw [if_pos rfl]; exact cl_good Ch.F_good (by decide) (by decide)
  | false =>
    rw [if_neg (by simp)]
    split
    · exact cl_plain (by unfold Ch.plain; decide)
    · unfold bad at hb
      simp only [Bool.or_eq_false_iff, Bool.and_eq_false_iff, decide_eq_false_iff_not] at hb
      exact cl_enc (by omega) (by omega) (by omega) (by omega)
theorem cl_meant {b x : List UInt8} (h : meant b = some x) : Cl x := by
  unfold meant at h
  split at h
  · split at h
    · obtain ⟨_, n, rfl⟩ := numL_some h; exact cl_code n
    · obtain ⟨_, n, rfl⟩ := numL_some h; exact cl_code n
  · obtain ⟨n, _, rfl⟩ := look_some h; exact cl_code n
theorem cutAt_eq : ∀ {r b : List UInt8}, cutAt r = some b → ∃ t, r = b ++ 59 :: t
  | [], b, h => by cases h
  | c :: r, b, h => by
    unfold cutAt at h
    split at h
    · rename_i e
      injection h with h
      subst e
      rw [← h]; exact ⟨r, rfl⟩
    · cases hc : cutAt r with
      | none => rw [hc] at h; cases h
      | some x =>
        rw [hc] at h
        injection h with h
        obtain ⟨t, ht⟩ := cutAt_eq hc
        rw [← h, ht]; exact ⟨t, rfl⟩
theorem cl_dec (n : Nat) : ∀ l : List UInt8, l.length ≤ n → Cl l → Cl (dec l) := by
  induction n with
  | zero =>
    intro l h hc
    obtain rfl : l = [] := List.eq_nil_of_length_eq_zero (by omega)
    rw [dec_nil]; exact hc
  | succ n ih =>
    intro l h hc
    cases l with
    | nil => rw [dec_nil]; exact hc
    | cons x l =>
      rw [List.length_cons] at h
      cases hra : (if x = 38 then refAt l else none) with
      | some p =>
        obtain ⟨u, k⟩ := p
        split at hra
        · rename_i hx
          subst hx
          unfold refAt at hra
          cases hcut : cutAt l with
          | none => rw [hcut] at hra; cases hra
          | some b =>
            rw [hcut] at hra
            simp only at hra
            cases hm : meant b with
            | none => rw [hm] at hra; cases hra
            | some v =>
              rw [hm] at hra
              simp only [Option.map_some, Option.some.injEq, Prod.mk.injEq] at hra
              obtain ⟨rfl, rfl⟩ := hra
              obtain ⟨t, rfl⟩ := cutAt_eq hcut
              have hf : fst (38 :: (b ++ 59 :: t)) = (v, b.length + 2) := by
                rw [fst_cons, if_pos rfl]
                unfold refAt
                rw [hcut]
                simp only [hm, Option.map_some]
              rw [dec_step (List.cons_ne_nil _ _), hf]
              have hd : (38 :: (b ++ 59 :: t)).drop (b.length + 2) = t := by
                rw [show b.length + 2 = (b.length + 1) + 1 by omega, List.drop_succ_cons, List.drop_append, List.drop_of_length_le (by omega), List.nil_append, show b.length + 1 - b.length = 1 by omega]; rfl
              show Cl (v ++ dec ((38 :: (b ++ 59 :: t)).drop (b.length + 2)))
              rw [hd]
              have h59 : Cl (59 :: t) := (cl_cut (a := 38 :: b) (by rw [List.cons_append]; exact hc) (fun c hc => by
                injection hc with hc
                rw [← hc]; decide)).2
              refine cl_app (cl_meant hm) (ih t ?_ (cl_tail h59 (by decide)))
              rw [List.length_append, List.length_cons] at h
              omega
        · cases hra
      | none =>
        have hdx : dec (x :: l) = x :: dec l := by
          rw [dec_step (List.cons_ne_nil _ _), fst_cons]
          split
          · rename_i hx
            rw [if_pos hx] at hra
            rw [hra]; rfl
          · rfl
        have hr := hc.1
        rw [Ch.rL_sz _ (List.cons_ne_nil _ _)] at hr
        by_cases hs : Ch.sz (x :: l) = 0
        · rw [if_pos hs] at hr; cases hr
        rw [if_neg hs] at hr
        have hx0 : x ≠ 0 := fun e => hc.2.1 (e ▸ List.mem_cons_self)
        have hx13 : x ≠ 13 := fun e => hc.2.2 (e ▸ List.mem_cons_self)
        rw [hdx]
        rcases sz_form hs with ⟨e1, e2⟩ | ⟨e1, cs, t, rfl, e2, e3, e4, e5⟩
        · exact cl_app (a := [x]) (cl_plain fun y hy => by rw [List.mem_singleton.1 hy]; exact ⟨e2, hx0, hx13⟩) (ih l (by omega) (cl_tail hc e2))
        · rw [e2, List.drop_succ_cons, List.drop_left] at hr
          have ht : Cl t := ⟨hr, fun e => hc.2.1 (List.mem_cons_of_mem _ (List.mem_append_right _ e)), fun e => hc.2.2 (List.mem_cons_of_mem _ (List.mem_append_right _ e))⟩
          have ie := ih t (by rw [List.length_append] at h; omega) ht
          obtain ⟨r, hg⟩ := good_of e2
          rw [dec_plain cs t fun e => absurd (e3 38 e).1 (by decide), ← List.cons_append]
          refine ⟨by rw [Ch.rL_good hg]; exact ie.1, fun e => ?_, fun e => ?_⟩
          · rcases List.mem_append.1 e with e | e
            · exact hc.2.1 (by rw [← List.cons_append]; exact List.mem_append_left _ e)
            · exact ie.2.1 e
          · rcases List.mem_append.1 e with e | e
            · exact hc.2.2 (by rw [← List.cons_append]; exact List.mem_append_left _ e)
            · exact ie.2.2 e

/-- What a token has is clean. -/
def TkCl (t : Tk) : Prop := Cl (L t.name) ∧ (t.kind ≠ 4 → Cl (L t.data)) ∧ ∀ a ∈ t.attrs, Cl (L a.name) ∧ Cl (L a.value)
theorem cl_empty : Cl (L (B [])) := by rw [L_B]; exact cl_nil
theorem cl_B {l : List UInt8} (h : Cl l) : Cl (L (B l)) := by rw [L_B]; exact h
theorem tk_txt {d : List UInt8} (h : Cl d) : ∀ t ∈ txt d, TkCl t := fun t ht => by
  unfold txt at ht
  split at ht
  · cases ht
  · rw [List.mem_singleton.1 ht]
    exact ⟨cl_empty, fun _ => cl_B h, fun a ha => by cases ha⟩
theorem cl_trimS {l : List UInt8} (h : Cl l) : Cl (trimS l) := by
  induction l with
  | nil => exact h
  | cons c r ih =>
    unfold trimS
    rw [List.dropWhile_cons]
    split
    · rename_i hc
      exact ih (cl_tail h (sp_asc hc))
    · exact h
theorem cl_upTo {q : UInt8 → Bool} (hq : ∀ c, q c = true → c.toNat < 128) {l : List UInt8} (h : Cl l) : Cl (Tm.upTo q l) ∧ Cl (Tm.from_ q l) := cl_lead (asc_by1 hq) h
theorem cl_drop1 {q : UInt8 → Bool} (hq : ∀ c, q c = true → c.toNat < 128) {l : List UInt8} (h : Cl l) : Cl ((Tm.from_ q l).drop 1) := by
  have h1 := (cl_upTo hq h).2
  rcases Tm.trail_cases (by1 q) l with e | e
  · show Cl ((trail (by1 q) l).drop 1)
    rw [e]; exact cl_nil
  · obtain ⟨u, hu⟩ : ∃ u, Tm.from_ q l = u := ⟨_, rfl⟩
    rw [hu] at h1 ⊢
    have e : by1 q u = true := by rw [← hu]; exact e
    cases u with
    | nil => exact cl_nil
    | cons c r => exact cl_tail h1 (hq c e)
theorem is_asc {d : UInt8} (hd : d.toNat < 128) : ∀ c, Tm.is d c = true → c.toNat < 128 := fun c h => by
  unfold Tm.is at h
  rw [beq_iff_eq] at h
  rw [h]; exact hd
theorem gt_asc : ∀ c, Tm.gt c = true → c.toNat < 128 := fun c h => by
  unfold Tm.gt at h
  rw [beq_iff_eq] at h
  rw [h]; decide
theorem cl_head {l : List UInt8} {d : UInt8} (h : Cl l) (hl : l.head? = some d) (hd : d.toNat < 128) : Cl (l.drop 1) := by
  cases l with
  | nil => cases hl
  | cons c r =>
    injection hl with hl
    subst hl
    exact cl_tail h hd
theorem cl_quo {d : UInt8} (hd : d.toNat < 128) {l : List UInt8} (h : Cl l) : Cl (Tm.quo d l).1 ∧ Cl (Tm.quo d l).2 := by
  unfold Tm.quo
  exact ⟨(cl_upTo (is_asc hd) h).1, cl_drop1 (is_asc hd) h⟩
theorem cl_value {l : List UInt8} (h : Cl l) : Cl (Tm.value l).1 ∧ Cl (Tm.value l).2 := by
  unfold Tm.value
  split
  · rename_i e; exact cl_quo (by decide) (cl_head h e (by decide))
  · split
    · rename_i e; exact cl_quo (by decide) (cl_head h e (by decide))
    · exact cl_upTo (fun c => ev_asc) h
theorem cl_valued {l : List UInt8} (h : Cl l) : Cl (Tm.valued l).1 ∧ Cl (Tm.valued l).2 := by
  unfold Tm.valued
  split
  · rename_i e
    have h1 := cl_value (cl_trimS (cl_head h e (by decide)))
    exact ⟨cl_dec _ _ (Nat.le_refl _) h1.1, h1.2⟩
  · exact ⟨cl_nil, h⟩
theorem cl_attr {c : UInt8} {r : List UInt8} (h : Cl (c :: r)) : (Cl (L (Tm.attr c r).1.name) ∧ Cl (L (Tm.attr c r).1.value)) ∧ Cl (Tm.attr c r).2 := by
  have hs : c :: r = (c :: Tm.upTo Tm.ea r) ++ Tm.from_ Tm.ea r := by rw [List.cons_append, Tm.lead_trail]
  rw [hs] at h
  obtain ⟨h1, h2⟩ := cl_cut h fun d hd => by
    rcases Tm.trail_cases (by1 Tm.ea) r with e | e
    · have hd : (trail (by1 Tm.ea) r).head? = some d := hd
      rw [e] at hd; cases hd
    · exact asc_by1 (fun c => ea_asc) _ e d hd
  have h3 := cl_valued (cl_trimS h2)
  unfold Tm.attr
  exact ⟨⟨cl_B (cl_low _ _ (Nat.le_refl _) h1), cl_B h3.1⟩, h3.2⟩
theorem mem_put {l : List At} {a b : At} (h : b ∈ Tm.put l a) : b ∈ l ∨ b = a := by
  unfold Tm.put at h
  split at h
  · exact .inl h
  · rcases List.mem_append.1 h with h | h
    · exact .inl h
    · exact .inr (List.mem_singleton.1 h)
theorem cl_attrs' (n : Nat) : ∀ (self : Bool) (acc : List At) (l : List UInt8), l.length ≤ n → Cl l → (∀ a ∈ acc, Cl (L a.name) ∧ Cl (L a.value)) → ∀ bs sf r, Tm.attrs self acc l = some (bs, sf, r) → (∀ a ∈ bs, Cl (L a.name) ∧ Cl (L a.value)) ∧ Cl r := by
  induction n with
  | zero =>
    intro self acc l h hc ha bs sf r he
    obtain rfl : l = [] := List.eq_nil_of_length_eq_zero (by omega)
    rw [Tm.attrs_nil] at he; cases he
  | succ n ih =>
    intro self acc l h hc ha bs sf r he
    cases l with
    | nil => rw [Tm.attrs_nil] at he; cases he
    | cons c l =>
      rw [List.length_cons] at h
      by_cases h1 : c = 62
      · subst h1
        rw [Tm.attrs_end] at he
        injection he with he
        injection he with e1 e2
        injection e2 with e2 e3
        rw [← e1, ← e3]
        exact ⟨ha, cl_tail hc (by decide)⟩
      by_cases h2 : c = 47 ∨ sp c = true
      · rw [Tm.attrs_skip self acc l h1 h2] at he
        have hca : c.toNat < 128 := by
          rcases h2 with e | e
          · rw [e]; decide
          · exact sp_asc e
        exact ih _ acc l (by omega) (cl_tail hc hca) ha bs sf r he
      · rw [Tm.attrs_attr self acc l h1 h2] at he
        obtain ⟨g1, g2⟩ := cl_attr hc
        have hle := Tm.len_attr c l
        exact ih _ _ _ (by omega) g2 (fun a hm => by
          rcases mem_put hm with e | e
          · exact ha a e
          · rw [e]; exact g1) bs sf r he
theorem asc_end (n : List UInt8) : Asc (isEnd n) := fun l h c hc => by
  unfold isEnd at h
  rw [Bool.and_eq_true, Bool.and_eq_true] at h
  exact asc_pre (by decide) l h.1.1 c hc
theorem asc_cend : Asc cend := fun l h c hc => by
  unfold cend at h
  rw [Bool.or_eq_true] at h
  rcases h with h | h
  · exact asc_pre (by decide) l h c hc
  · exact asc_pre (by decide) l h c hc
theorem begun_60 {l : List UInt8} (h : Tm.begun l ≠ 0) : ∃ r, l = 60 :: r := by
  cases l with
  | nil => exact absurd rfl h
  | cons a r =>
    by_cases ha : a = 60
    · exact ⟨r, by rw [ha]⟩
    · exfalso
      apply h
      show (if a = 60 then _ else 0) = 0
      rw [if_neg ha]
theorem asc_bg : Asc Tm.bg := fun l h c hc => by
  unfold Tm.bg at h
  obtain ⟨r, rfl⟩ := begun_60 (of_decide_eq_true h)
  injection hc with hc
  rw [← hc]; decide
theorem begun_form (l : List UInt8) : (Tm.begun l = 2 → ∃ r, l = 60 :: 47 :: r) ∧ (Tm.begun l = 3 → ∃ r, l = 60 :: 47 :: 62 :: r) ∧ (Tm.begun l = 4 → ∃ r, l = 60 :: 33 :: 45 :: 45 :: r) := by
  by_cases h0 : Tm.begun l = 0
  · rw [h0]
    exact ⟨fun h => absurd h (by decide), fun h => absurd h (by decide), fun h => absurd h (by decide)⟩
  obtain ⟨r, rfl⟩ := begun_60 h0
  cases r with
  | nil => exact absurd rfl h0
  | cons c r =>
    have e : Tm.begun (60 :: c :: r) = if lr c = true then 1 else if c = 47 then Tm.slashed r else if c = 33 then Tm.marked r else if c = 63 then 6 else 0 := by
      have e0 : Tm.begun (60 :: c :: r) = if (60 : UInt8) = 60 then (if lr c = true then 1 else if c = 47 then Tm.slashed r else if c = 33 then Tm.marked r else if c = 63 then 6 else 0) else 0 := rfl
      rw [e0, if_pos rfl]
    rw [e]
    by_cases h1 : lr c = true
    · rw [if_pos h1]
      exact ⟨fun h => absurd h (by decide), fun h => absurd h (by decide), fun h => absurd h (by decide)⟩
    rw [if_neg h1]
    by_cases h2 : c = 47
    · rw [if_pos h2, h2]
      refine ⟨fun _ => ⟨r, rfl⟩, fun h => ?_, fun h => ?_⟩
      · cases r with
        | nil => exact absurd h (by decide)
        | cons d q =>
          have es : Tm.slashed (d :: q) = if lr d = true then 2 else if d = 62 then 3 else 6 := rfl
          rw [es] at h
          split at h
          · exact absurd h (by decide)
          · split at h
            · rename_i hd; exact ⟨q, by rw [hd]⟩
            · exact absurd h (by decide)
      · exfalso
        cases r with
        | nil => exact absurd h (by decide)
        | cons d q =>
          have es : Tm.slashed (d :: q) = if lr d = true then 2 else if d = 62 then 3 else 6 := rfl
          rw [es] at h
          split at h
          · exact absurd h (by decide)
          · split at h <;> exact absurd h (by decide)
    rw [if_neg h2]
    by_cases h3 : c = 33
    · rw [if_pos h3, h3]
      have hm : Tm.marked r = 4 ∨ Tm.marked r = 5 ∨ Tm.marked r = 6 := by
        unfold Tm.marked
        split
        · exact .inl rfl
        · split
          · exact .inr (.inl rfl)
          · exact .inr (.inr rfl)
      refine ⟨fun h => by omega, fun h => by omega, fun h => ?_⟩
      unfold Tm.marked at h
      split at h
      · rename_i hp
        match r, hp with
        | [], hp => exact absurd hp (by decide)
        | [a], hp => rw [Tm.pre_cons] at hp; exact absurd hp (by unfold pre; simp)
        | a :: b :: q, hp =>
          rw [Tm.pre_cons, Tm.pre_cons, Tm.pre_nil, Bool.and_true, Bool.and_eq_true, decide_eq_true_iff, decide_eq_true_iff] at hp
          exact ⟨q, by rw [hp.1, hp.2]⟩
      · split at h <;> exact absurd h (by decide)
    rw [if_neg h3]
    split
    · exact ⟨fun h => absurd h (by decide), fun h => absurd h (by decide), fun h => absurd h (by decide)⟩
    · exact ⟨fun h => absurd h (by decide), fun h => absurd h (by decide), fun h => absurd h (by decide)⟩

/-- The rest behind a cut, if that is clean. -/
theorem cl_cont {n l : List UInt8} (h : Cl l) : (∀ t ∈ (Tm.cont n l).1, TkCl t) ∧ Cl (Tm.cont n l).2 := by
  obtain ⟨h1, h2⟩ := cl_lead (asc_end n) h
  unfold Tm.cont
  split
  · exact ⟨tk_txt h1, h2⟩
  · split
    · exact ⟨tk_txt (cl_dec _ _ (Nat.le_refl _) h1), h2⟩
    · exact ⟨fun t ht => (by cases ht), h⟩

theorem cl_comm {l : List UInt8} (h : Cl l) : Cl (comm l).1 ∧ Cl (comm l).2 := by
  unfold comm
  split
  · rename_i e
    refine ⟨cl_nil, ?_⟩
    cases l with
    | nil => exact cl_nil
    | cons a r =>
      rw [Tm.pre_cons, Tm.pre_nil, Bool.and_true, decide_eq_true_iff] at e
      exact cl_tail h (by rw [e]; decide)
  · split
    · rename_i _ e
      refine ⟨cl_nil, cl_drop h 2 ?_⟩
      match l, e with
      | [], _ => intro c hc; cases hc
      | [a], e => rw [Tm.pre_cons] at e; exact absurd e (by unfold pre; simp)
      | a :: b :: q, e =>
        rw [Tm.pre_cons, Tm.pre_cons, Tm.pre_nil, Bool.and_true, Bool.and_eq_true, decide_eq_true_iff, decide_eq_true_iff] at e
        intro c hc
        simp only [List.take_succ_cons, List.take_zero, List.mem_cons, List.not_mem_nil, or_false] at hc
        rcases hc with rfl | rfl
        · rw [e.1]; decide
        · rw [e.2]; decide
    · obtain ⟨h1, h2⟩ := cl_lead asc_cend h
      refine ⟨h1, ?_⟩
      rcases Tm.trail_cases cend l with e | e
      · rw [e, List.drop_nil]; exact cl_nil
      · refine cl_drop h2 _ ?_
        obtain ⟨u, hu⟩ : ∃ u, trail cend l = u := ⟨_, rfl⟩
        rw [hu] at e ⊢
        have hp : ∀ t : List UInt8, pre t u = true → (∀ c ∈ t, c.toNat < 128) → ∀ n, n ≤ t.length → ∀ c ∈ u.take n, c.toNat < 128 := fun t ht hc n hn c hcu => by
          unfold pre at ht
          have := of_decide_eq_true ht
          have h3 : u.take n = t.take n := by rw [← this, List.take_take, Nat.min_eq_left hn]
          rw [h3] at hcu
          exact hc c (List.mem_of_mem_take hcu)
        unfold cend at e
        rw [Bool.or_eq_true] at e
        by_cases h3 : pre [45, 45, 62] u = true
        · rw [if_pos h3]
          exact hp _ h3 (by decide) 3 (Nat.le_refl _)
        · rw [if_neg h3]
          rcases e with e | e
          · exact absurd e h3
          · exact hp _ e (by decide) 4 (Nat.le_refl _)
theorem cl_behind {l : List UInt8} (m : Nat) {q : UInt8 → Bool} (hq : ∀ c, q c = true → c.toNat < 128) (h : Cl l) : Cl ((Tm.from_ q (l.drop m)).drop 1) := by
  rcases Tm.trail_cases (by1 q) (l.drop m) with e | e
  · show Cl ((trail (by1 q) (l.drop m)).drop 1)
    rw [e]; exact cl_nil
  · have hs : l = (l.take m ++ Tm.upTo q (l.drop m)) ++ Tm.from_ q (l.drop m) := by rw [List.append_assoc, Tm.lead_trail, List.take_append_drop]
    rw [hs] at h
    obtain ⟨u, hu⟩ : ∃ u, Tm.from_ q (l.drop m) = u := ⟨_, rfl⟩
    have e : by1 q u = true := by rw [← hu]; exact e
    rw [hu] at h ⊢
    cases u with
    | nil => exact cl_nil
    | cons c r =>
      have hc : c.toNat < 128 := hq c e
      exact cl_tail (cl_cut h (fun d hd => by injection hd with hd; rw [← hd]; exact hc)).2 hc
theorem cl_start {l : List UInt8} (h : Cl l) : (∀ t ∈ (Tm.startTag l).1, TkCl t) ∧ Cl (Tm.startTag l).2 := by
  obtain ⟨h1, h2⟩ := cl_upTo (fun c => en_asc) h
  unfold Tm.startTag
  split
  · exact ⟨fun t ht => (by cases ht), cl_nil⟩
  · rename_i bs sf r e
    obtain ⟨g1, g2⟩ := cl_attrs' _ false [] _ (Nat.le_refl _) h2 (fun a ha => by cases ha) bs sf r e
    obtain ⟨k1, k2⟩ := cl_cont (n := lowL (Tm.upTo Tm.en l)) g2
    refine ⟨fun t ht => ?_, k2⟩
    rcases List.mem_cons.1 ht with e | e
    · rw [e]
      exact ⟨cl_B (cl_low _ _ (Nat.le_refl _) h1), fun _ => cl_empty, g1⟩
    · exact k1 t e
theorem cl_endTag {l : List UInt8} (h : Cl l) : (∀ t ∈ (Tm.endTag l).1, TkCl t) ∧ Cl (Tm.endTag l).2 := by
  obtain ⟨h1, h2⟩ := cl_upTo (fun c => en_asc) h
  unfold Tm.endTag
  split
  · exact ⟨fun t ht => (by cases ht), cl_nil⟩
  · rename_i bs sf r e
    obtain ⟨g1, g2⟩ := cl_attrs' _ false [] _ (Nat.le_refl _) h2 (fun a ha => by cases ha) bs sf r e
    refine ⟨fun t ht => ?_, g2⟩
    rw [List.mem_singleton.1 ht]
    exact ⟨cl_B (cl_low _ _ (Nat.le_refl _) h1), fun _ => cl_empty, fun a ha => by cases ha⟩
theorem cl_marks {l : List UInt8} (h : Cl l) : Cl (Tm.marks l) := by
  unfold Tm.marks
  split
  · rename_i e; exact cl_head h e (by decide)
  · split
    · rename_i e; exact cl_head h e (by decide)
    · exact h
theorem cl_mk {l : List UInt8} (h : Cl l) : (∀ t ∈ (Tm.mk l).1, TkCl t) ∧ Cl (Tm.mk l).2 := by
  obtain ⟨f2, f3, f4⟩ := begun_form l
  unfold Tm.mk
  split
  · rename_i e
    obtain ⟨r, rfl⟩ := begun_60 (l := l) (by omega)
    exact cl_start (cl_tail h (by decide))
  split
  · rename_i e
    obtain ⟨r, rfl⟩ := f2 e
    exact cl_endTag (cl_tail (cl_tail h (by decide)) (by decide))
  split
  · rename_i e
    obtain ⟨r, rfl⟩ := f3 e
    exact ⟨fun t ht => (by cases ht), cl_tail (cl_tail (cl_tail h (by decide)) (by decide)) (by decide)⟩
  split
  · rename_i e
    obtain ⟨r, rfl⟩ := f4 e
    have hr : Cl r := cl_tail (cl_tail (cl_tail (cl_tail h (by decide)) (by decide)) (by decide)) (by decide)
    obtain ⟨g1, g2⟩ := cl_comm hr
    refine ⟨fun t ht => ?_, g2⟩
    rw [List.mem_singleton.1 ht]
    exact ⟨cl_empty, fun _ => cl_B g1, fun a ha => by cases ha⟩
  split
  · refine ⟨fun t ht => ?_, ?_⟩
    · rw [List.mem_singleton.1 ht]
      exact ⟨cl_empty, fun hk => absurd rfl hk, fun a ha => by cases ha⟩
    · unfold Tm.closed
      exact cl_behind 9 gt_asc h
  split
  · rename_i e
    obtain ⟨r, rfl⟩ := begun_60 (l := l) (by omega)
    have hm := cl_marks (cl_tail h (by decide))
    unfold Tm.closed
    refine ⟨fun t ht => ?_, cl_drop1 gt_asc hm⟩
    rw [List.mem_singleton.1 ht]
    exact ⟨cl_empty, fun _ => cl_B (cl_upTo gt_asc hm).1, fun a ha => by cases ha⟩
  · exact ⟨fun t ht => (by cases ht), h⟩
theorem cl_turn {l : List UInt8} (h : Cl l) : (∀ t ∈ (Tm.turn l).1, TkCl t) ∧ Cl (Tm.turn l).2 := by
  obtain ⟨h1, h2⟩ := cl_lead asc_bg h
  obtain ⟨g1, g2⟩ := cl_mk h2
  unfold Tm.turn
  refine ⟨fun t ht => ?_, g2⟩
  rcases List.mem_append.1 ht with e | e
  · exact tk_txt (cl_dec _ _ (Nat.le_refl _) h1) t e
  · exact g1 t e
theorem cl_tokens (n : Nat) : ∀ l : List UInt8, l.length ≤ n → Cl l → ∀ t ∈ Tm.cut l, TkCl t := by
  induction n with
  | zero =>
    intro l h hc t ht
    obtain rfl : l = [] := List.eq_nil_of_length_eq_zero (by omega)
    rw [To.cut_nil] at ht; cases ht
  | succ n ih =>
    intro l h hc t ht
    by_cases hl : l = []
    · rw [hl, To.cut_nil] at ht; cases ht
    have hlt := To.len_turn hl
    obtain ⟨g1, g2⟩ := cl_turn hc
    rw [To.cut_step hl] at ht
    rcases List.mem_append.1 ht with e | e
    · exact g1 t e
    · exact ih _ (by omega) g2 t e
theorem cl_within {n l : List UInt8} (h : Cl l) : ∀ t ∈ Tm.within n l, TkCl t := fun t ht => by
  unfold Tm.within at ht
  obtain ⟨g1, g2⟩ := cl_cont (n := n) h
  rcases List.mem_append.1 ht with e | e
  · exact g1 t e
  · exact cl_tokens _ _ (Nat.le_refl _) g2 t e
theorem cl_ready (l : List UInt8) : Cl (rdy l) := ⟨Ch.ready_right l, Ch.no0_ready l, Ch.no13 _ false⟩

/-- What is built of clean tokens is clean. -/
theorem row_mono {a b : List Ro} (h : ∀ x ∈ a, RowCl x) (hb : ∀ x ∈ b, RowCl x) : ∀ x ∈ a ++ b, RowCl x := fun x hx => by
  rcases List.mem_append.1 hx with e | e
  · exact h x e
  · exact hb x e
theorem row_one {a : List Ro} {y : Ro} (h : ∀ x ∈ a, RowCl x) (hy : RowCl y) : ∀ x ∈ a ++ [y], RowCl x := row_mono h fun x hx => by rw [List.mem_singleton.1 hx]; exact hy
theorem mem_once {l : List At} {a : At} (h : a ∈ once l) : a ∈ l := by
  have : ∀ (l acc : List At), a ∈ l.foldl Tm.put acc → a ∈ acc ∨ a ∈ l := fun l => by
    induction l with
    | nil => intro acc h; exact .inl h
    | cons b r ih =>
      intro acc h
      rcases ih _ h with e | e
      · rcases mem_put e with e | e
        · exact .inl e
        · exact .inr (e ▸ List.mem_cons_self)
      · exact .inr (List.mem_cons_of_mem _ e)
  rcases this l [] h with e | e
  · cases e
  · exact e
theorem cl_step {st : St} {t : Tk} (ht : TkCl t) (h : ∀ x ∈ st.out, RowCl x) : ∀ x ∈ (stepB st t).out, RowCl x := by
  obtain ⟨t1, t2, t3⟩ := ht
  unfold stepB
  split
  · rename_i hk
    have hd := t2 (by omega)
    split
    · exact h
    · have hnew : ∀ d : Int, RowCl ⟨d, 1, ⟨#[]⟩, t.data, []⟩ := fun d => ⟨fun e => absurd e (show ¬ (1 : Int) = 0 by decide), fun _ => hd⟩
      show ∀ x ∈ addText st.out st.stk.length t.data, RowCl x
      unfold addText
      split
      · rename_i y hy
        split
        · have hym := h y (List.mem_of_getLast? hy)
          rename_i hyk
          exact row_one (fun x hx => h x (List.dropLast_subset _ hx)) ⟨fun e => absurd hyk.1 (by have e : y.kind = 0 := e; omega), fun _ => by
            show Cl (L (y.data ++ t.data))
            rw [L_append]
            exact cl_app (hym.2 (by omega)) hd⟩
        · exact row_one h (hnew _)
      · exact row_one h (hnew _)
  split
  · rename_i hk
    exact row_one h ⟨fun e => absurd e (show ¬ (2 : Int) = 0 by decide), fun _ => t2 (by omega)⟩
  split
  · split
    · exact h
    · exact row_one h ⟨fun _ => ⟨t1, fun a ha => t3 a (mem_once ha)⟩, fun e => absurd rfl e⟩
  split
  · split
    · exact h
    · split
      · exact h
      · split
        · exact row_one h ⟨fun _ => ⟨cl_plain (show Ch.plain (L n_p) by unfold Ch.plain; decide), fun a ha => by cases ha⟩, fun e => absurd rfl e⟩
        · exact h
  · exact h
theorem cl_tree : ∀ {T : List Tk} {st : St} {o : List Ro}, (∀ t ∈ T, TkCl t) → (∀ x ∈ st.out, RowCl x) → treeB st T = some o → ∀ x ∈ o, RowCl x
  | [], st, o, _, h, he => by
    injection he with he
    rw [← he]; exact h
  | t :: r, st, o, ht, h, he => by
    rw [tree_cons'] at he
    split at he
    · cases he
    · exact cl_tree (fun u hu => ht u (List.mem_cons_of_mem _ hu)) (cl_step (ht t List.mem_cons_self) h) he

end Go.Proofs.YtenmlpfjeohkiaaGreatDoor.Wm

namespace Go.Proofs.YtenmlpfjeohkiaaGreatDoor.Wm
set_option linter.unusedVariables false
set_option linter.unusedSimpArgs false
open Ba Fm Rm Nm Bm
open Ro (At Ro)
open Bu (rdy)
open Tm (lead trail by1 pre Tk tx txt comm cend isEnd EndOf nmOk asOk softOr rawB softB bg mk cut cont attrs from_ upTo en)
/-- Tokens as a document has them: what has text alone is ended by its own end. -/
inductive Sof : List Tk → Prop
  | nil : Sof []
  | text (d : List UInt8) (r : List Tk) : d ≠ [] → Sof r → Sof (tx d :: r)
  | note (d : List UInt8) (r : List Tk) : (∀ x, comm (d ++ ([45, 45, 62] ++ x)) = (d, x)) → Sof r → Sof (⟨3, B [], B d, [], false⟩ :: r)
  | skip (d : List UInt8) (r : List Tk) : Sof r → Sof (⟨4, B [], B d, [], false⟩ :: r)
  | end_ (n : List UInt8) (r : List Tk) : nmOk n → Sof r → Sof (⟨2, B n, B [], [], false⟩ :: r)
  | start (n : List UInt8) (l : List At) (sf : Bool) (r : List Tk) : nmOk n → asOk l → softOr n = false → Sof r → Sof (⟨1, B n, B [], l, sf⟩ :: r)
  | none_ (n : List UInt8) (l : List At) (sf : Bool) (r : List Tk) : nmOk n → asOk l → softOr n = true → EndOf n r → Sof r → Sof (⟨1, B n, B [], l, sf⟩ :: r)
  | one (n : List UInt8) (l : List At) (sf : Bool) (d : List UInt8) (r : List Tk) : nmOk n → asOk l → softOr n = true → d ≠ [] → (rawB n = true → lead (isEnd n) d = d) → EndOf n r → Sof r → Sof (⟨1, B n, B [], l, sf⟩ :: tx d :: r)
theorem lead_self (n l : List UInt8) : lead (isEnd n) (lead (isEnd n) l) = lead (isEnd n) l := by
  have := (Tm.lead_to (p := isEnd n) (s := lead (isEnd n) l) (r := []) (fun q hq hs => by
    rw [List.append_nil]
    by_cases hl : 2 + n.length < q.length
    · have := Tm.lead_not (p := isEnd n) hq hs
      rwa [Tm.isEnd_far hl] at this
    · exact Tm.isEnd_near (by omega)) (.inl rfl)).1
  rwa [List.append_nil] at this
theorem sof_txt {d : List UInt8} {r : List Tk} (h : Sof r) : Sof (txt d ++ r) := by
  unfold txt
  split
  · exact h
  · rename_i hd
    exact .text d r hd h
/-- The rest of a start tag. -/
theorem sof_start {nm : List UInt8} {bs : List At} {sf : Bool} {r : List UInt8} (hnm : nmOk nm) (has : asOk bs) (IH : Sof (cut (cont nm r).2)) : Sof (⟨1, B nm, B [], bs, sf⟩ :: ((cont nm r).1 ++ cut (cont nm r).2)) := by
  cases hso : softOr nm with
  | false =>
    rw [Tm.cont_n hso] at IH ⊢
    exact .start nm bs sf _ hnm has hso IH
  | true =>
    have hR : EndOf nm (cut (trail (isEnd nm) r)) := by
      rcases Tm.trail_cases (isEnd nm) r with e | e
      · rw [e, To.cut_nil]; exact .inl rfl
      · exact Tm.end_cut hnm e
    cases hrb : rawB nm with
    | true =>
      rw [Tm.cont_r hrb] at IH ⊢
      show Sof (⟨1, B nm, B [], bs, sf⟩ :: (txt (lead (isEnd nm) r) ++ cut (trail (isEnd nm) r)))
      by_cases hd : lead (isEnd nm) r = []
      · rw [hd]; exact .none_ nm bs sf _ hnm has hso hR IH
      · rw [Tm.txt_some hd]
        exact .one nm bs sf _ _ hnm has hso hd (fun _ => lead_self nm r) hR IH
    | false =>
      have hsb : softB nm = true := by
        unfold softOr at hso
        rwa [hrb, Bool.false_or] at hso
      rw [Tm.cont_s hrb hsb] at IH ⊢
      show Sof (⟨1, B nm, B [], bs, sf⟩ :: (txt (dec (lead (isEnd nm) r)) ++ cut (trail (isEnd nm) r)))
      by_cases hd : dec (lead (isEnd nm) r) = []
      · rw [hd]; exact .none_ nm bs sf _ hnm has hso hR IH
      · rw [Tm.txt_some hd]
        exact .one nm bs sf _ _ hnm has hso hd (fun e => by rw [hrb] at e; cases e) hR IH
theorem sof_all (l : List UInt8) : Sof (cut l) := by
  induction hn : l.length using Nat.strongRecOn generalizing l with
  | ind n ih =>
    subst hn
    by_cases hl : l = []
    · rw [hl, To.cut_nil]; exact .nil
    have hlt := To.len_turn hl
    rw [To.cut_step hl]
    show Sof ((txt (dec (lead bg l)) ++ (mk (trail bg l)).1) ++ cut (mk (trail bg l)).2)
    rw [List.append_assoc]
    have hlt : (mk (trail bg l)).2.length < l.length := hlt
    apply sof_txt
    obtain ⟨b, hb⟩ : ∃ b, trail bg l = b := ⟨_, rfl⟩
    rw [hb] at hlt ⊢
    have IH := ih _ hlt _ rfl
    by_cases h1 : Tm.begun b = 1
    · rw [To.mk_1 h1] at hlt IH ⊢
      have hlet := Tm.begun_letter.1 h1
      cases ha : attrs false [] (from_ en (b.drop 1)) with
      | none =>
        rw [(To.start_no ha).1]
        show Sof ([] ++ cut [])
        rw [To.cut_nil]; exact .nil
      | some x =>
        obtain ⟨bs, sf, r⟩ := x
        rw [(To.start_yes ha).1] at hlt IH ⊢
        exact sof_start (Tm.nmOk_cut hlet) (Tm.asOk_cut _ _ _ _ _ _ Tm.asOk_nil ha) IH
    by_cases h2 : Tm.begun b = 2
    · rw [To.mk_2 h2] at hlt IH ⊢
      have hlet := Tm.begun_letter.2 h2
      cases ha : attrs false [] (from_ en (b.drop 2)) with
      | none =>
        rw [(To.start_no ha).2]
        show Sof ([] ++ cut [])
        rw [To.cut_nil]; exact .nil
      | some x =>
        obtain ⟨bs, sf, r⟩ := x
        rw [(To.start_yes ha).2] at IH ⊢
        exact .end_ _ _ (Tm.nmOk_cut hlet) IH
    by_cases h3 : Tm.begun b = 3
    · rw [To.mk_3 h3] at IH ⊢; exact IH
    by_cases h4 : Tm.begun b = 4
    · rw [To.mk_4 h4] at IH ⊢
      exact .note _ _ (fun x => Tm.comm_again _ x) IH
    by_cases h5 : Tm.begun b = 5
    · rw [To.mk_5 h5] at IH ⊢
      exact .skip _ _ IH
    by_cases h6 : Tm.begun b = 6
    · rw [To.mk_6 h6] at IH ⊢
      exact .note _ _ (fun x => Tm.comm_free (Tm.not_gt _) x) IH
    · rw [To.mk_0 h1 h2 h3 h4 h5 h6] at hlt IH ⊢
      exact IH

/-- A row within an element that has text alone. -/
def sofRow (p : List ByteArray) (x : Ro) : Prop := ∀ n, 0 < x.depth → p[x.depth.toNat - 1]? = some n → softOr (L n) = true → x.kind = 1 ∧ (rawB (L n) = true → lead (isEnd (L n)) (L x.data) = L x.data)
def sofFrom (p : List ByteArray) : List Ro → Prop
  | [] => True
  | x :: r => sofRow p x ∧ sofFrom (pathStep p x) r
theorem sof_snoc : ∀ {p : List ByteArray} {l : List Ro} {x : Ro}, sofFrom p l → sofRow (pathFrom p l) x → sofFrom p (l ++ [x])
  | p, [], x, _, h => ⟨h, trivial⟩
  | p, y :: l, x, h, hx => ⟨h.1, sof_snoc h.2 hx⟩
theorem sof_init : ∀ {p : List ByteArray} {l : List Ro} {x : Ro}, sofFrom p (l ++ [x]) → sofFrom p l ∧ sofRow (pathFrom p l) x
  | p, [], x, h => ⟨trivial, h.1⟩
  | p, y :: l, x, h => by
    obtain ⟨h1, h2⟩ := sof_init (l := l) h.2
    exact ⟨⟨h.1, h1⟩, h2⟩
theorem sof_append : ∀ {p : List ByteArray} {a b : List Ro}, sofFrom p (a ++ b) → sofFrom p a ∧ sofFrom (pathFrom p a) b
  | p, [], b, h => ⟨trivial, h⟩
  | p, y :: a, b, h => by
    obtain ⟨h1, h2⟩ := sof_append (a := a) h.2
    exact ⟨⟨h.1, h1⟩, h2⟩
theorem good_append : ∀ {p : List ByteArray} {a b : List Ro}, goodFrom p (a ++ b) → goodFrom p a ∧ goodFrom (pathFrom p a) b
  | p, [], b, h => ⟨trivial, h⟩
  | p, y :: a, b, h => by
    obtain ⟨h1, h2⟩ := good_append (a := a) h.2
    exact ⟨⟨h.1, h1⟩, h2⟩
/-- What a row must be by itself. -/
def rowOk (x : Ro) : Prop := (x.kind = 0 → nmOk (L x.name) ∧ asOk x.attrs) ∧ (x.kind = 2 → ∀ t, comm (L x.data ++ ([45, 45, 62] ++ t)) = (L x.data, t))

/-- Within elements that have more than text nothing is asked. -/
theorem free_row {p r : List ByteArray} {x : Ro} (ht : p.take r.length = r.reverse) (hd : x.depth = (r.length : Int)) (hf : ∀ n ∈ r, softOr (L n) = false) : sofRow p x := fun n h0 hn hs => by
  have hto : x.depth.toNat = r.length := by omega
  rw [hto] at hn
  have h1 : (p.take r.length)[r.length - 1]? = some n := by rw [List.getElem?_take, if_pos (by omega)]; exact hn
  rw [ht] at h1
  have := hf n (List.mem_reverse.1 (List.mem_of_getElem? h1))
  rw [hs] at this; cases this
theorem soft_facts {n : List UInt8} (h : softOr n = true) : noName (B n) = false ∧ isIn (B n) voidL = false := by
  have hall : ∀ x ∈ rawL ++ softL, noName x = false ∧ isIn x voidL = false := by decide
  refine hall _ ?_
  unfold softOr rawB softB at h
  rw [Bool.or_eq_true] at h
  rcases h with h | h
  · exact List.mem_append_left _ (isIn_of h)
  · exact List.mem_append_right _ (isIn_of h)
theorem once_ok {l : List At} (h : asOk l) : asOk (once l) := by rw [once_same h]; exact h
theorem p_ok : nmOk (L n_p) := Tm.nm_right (by decide)

/-- What is true of what is built. -/
structure Bt (st : St) : Prop where
  inv : Inv st
  sof : sofFrom [] st.out
  rows : ∀ x ∈ st.out, rowOk x
theorem Bt.row {st : St} (h : Bt st) {r : List ByteArray} (hr : r <:+ st.stk) (hf : ∀ n ∈ st.stk, softOr (L n) = false) (x : Ro) (hd : x.depth = (r.length : Int)) (hx : rowOk x) : sofFrom [] (st.out ++ [x]) ∧ ∀ y ∈ st.out ++ [x], rowOk y :=
  ⟨sof_snoc h.sof (free_row (take_suffix h.inv.eq hr) hd fun n hn => hf n (hr.subset hn)), fun y hy => by
    rcases List.mem_append.1 hy with e | e
    · exact h.rows y e
    · rw [List.mem_singleton.1 e]; exact hx⟩
theorem text_ok (d : Int) (t : ByteArray) : rowOk ⟨d, 1, ⟨#[]⟩, t, []⟩ := ⟨fun e => absurd e (show ¬ (1 : Int) = 0 by decide), fun e => absurd e (show ¬ (1 : Int) = 2 by decide)⟩
theorem Bt.text {st : St} (h : Bt st) (hf : ∀ n ∈ st.stk, softOr (L n) = false) (t : ByteArray) : sofFrom [] (addText st.out st.stk.length t) ∧ ∀ y ∈ addText st.out st.stk.length t, rowOk y := by
  have hnew := h.row (List.suffix_refl _) hf ⟨st.stk.length, 1, ⟨#[]⟩, t, []⟩ rfl (text_ok _ _)
  unfold addText
  split
  · rename_i y hy
    split
    · rename_i hyk
      have he := Bm.last_snoc hy
      have hs := h.sof
      rw [he] at hs
      obtain ⟨s1, s2⟩ := sof_init hs
      have hi := h.inv.eq
      have hp : pathFrom [] st.out = pathStep (pathFrom [] st.out.dropLast) y := by
        conv => lhs; rw [he]
        exact pathFrom_snoc _ _ _
      refine ⟨sof_snoc s1 (free_row (r := st.stk) ?_ hyk.2 hf), fun z hz => ?_⟩
      · rw [hp] at hi
        unfold pathStep at hi
        rw [if_neg (by omega), List.append_nil, List.take_take, show y.depth.toNat = st.stk.length by omega, Nat.min_self] at hi
        exact hi
      · rcases List.mem_append.1 hz with e | e
        · exact h.rows z (List.dropLast_subset _ e)
        · rw [List.mem_singleton.1 e]
          exact ⟨fun e => absurd e (by show ¬ y.kind = 0; omega), fun e => absurd e (by show ¬ y.kind = 2; omega)⟩
    · exact hnew
  · exact hnew
theorem not_end {n : List UInt8} {t : Tk} {r : List Tk} (hk : t.kind ≠ 2) : ¬ EndOf n (t :: r) := fun h => by
  rcases h with h | ⟨q, h⟩
  · cases h
  · injection h with h _
    rw [h] at hk
    exact hk rfl
/-- Which elements stand open: none that has text alone; or one, the last, whose end comes next. -/
def Mode (s : List ByteArray) (T : List Tk) : Prop := (∀ n ∈ s, softOr (L n) = false) ∨ ∃ n q, s = n :: q ∧ (∀ m ∈ q, softOr (L m) = false) ∧ softOr (L n) = true ∧ EndOf (L n) T
theorem Mode.free {s : List ByteArray} {t : Tk} {r : List Tk} (h : Mode s (t :: r)) (hk : t.kind ≠ 2) : ∀ n ∈ s, softOr (L n) = false := by
  rcases h with h | ⟨n, q, _, _, _, he⟩
  · exact h
  · exact absurd he (not_end hk)
theorem sof_build {T : List Tk} (hS : Sof T) : ∀ {st : St} {o : List Ro}, Bt st → Mode st.stk T → treeB st T = some o → sofFrom [] o ∧ ∀ x ∈ o, rowOk x := by
  induction hS with
  | nil =>
    intro st o hb _ ht
    injection ht with ht
    rw [← ht]; exact ⟨hb.sof, hb.rows⟩
  | text d r hd hr ih =>
    intro st o hb hm ht
    have hf := hm.free (show (0 : Int) ≠ 2 by decide)
    rw [tree_cons'] at ht
    split at ht
    · cases ht
    have hi := hb.inv.step (tx d)
    have hstep : stepB st (tx d) = ⟨st.stk, addText st.out st.stk.length (B d)⟩ := by
      unfold stepB
      rw [if_pos (show (tx d).kind = 0 from rfl), if_neg (show ¬ (tx d).data = ⟨#[]⟩ from fun e => hd (by
        have e : B d = ⟨#[]⟩ := e
        rw [← L_B d, e]))]
      rfl
    rw [hstep] at hi ht
    obtain ⟨h1, h2⟩ := hb.text hf (B d)
    exact ih ⟨hi, h1, h2⟩ (.inl hf) ht
  | note d r hc hr ih =>
    intro st o hb hm ht
    have hf := hm.free (show (3 : Int) ≠ 2 by decide)
    rw [tree_cons'] at ht
    split at ht
    · cases ht
    have hi := hb.inv.step ⟨3, B [], B d, [], false⟩
    have hstep : stepB st ⟨3, B [], B d, [], false⟩ = ⟨st.stk, st.out ++ [⟨st.stk.length, 2, ⟨#[]⟩, B d, []⟩]⟩ := rfl
    rw [hstep] at hi ht
    obtain ⟨h1, h2⟩ := hb.row (List.suffix_refl _) hf ⟨st.stk.length, 2, ⟨#[]⟩, B d, []⟩ rfl ⟨fun e => absurd e (show ¬ (2 : Int) = 0 by decide), fun _ t => by
      show comm (L (B d) ++ _) = (L (B d), t)
      rw [L_B]; exact hc t⟩
    exact ih ⟨hi, h1, h2⟩ (.inl hf) ht
  | skip d r hr ih =>
    intro st o hb hm ht
    have hf := hm.free (show (4 : Int) ≠ 2 by decide)
    rw [tree_cons'] at ht
    split at ht
    · cases ht
    have hstep : stepB st ⟨4, B [], B d, [], false⟩ = st := rfl
    rw [hstep] at ht
    exact ih hb (.inl hf) ht
  | end_ n r hn hr ih =>
    intro st o hb hm ht
    rw [tree_cons'] at ht
    split at ht
    · cases ht
    have hi := hb.inv.step ⟨2, B n, B [], [], false⟩
    rcases hm with hf | ⟨m, q, hs, hq, hsm, he⟩
    · have hcases : (stepB st ⟨2, B n, B [], [], false⟩ = st) ∨ (∃ s', s' <:+ st.stk ∧ stepB st ⟨2, B n, B [], [], false⟩ = ⟨s', st.out⟩) ∨ stepB st ⟨2, B n, B [], [], false⟩ = ⟨st.stk, st.out ++ [⟨st.stk.length, 0, n_p, ⟨#[]⟩, []⟩]⟩ := by
        unfold stepB
        rw [if_neg (show ¬ (2 : Int) = 0 by decide), if_neg (show ¬ (2 : Int) = 3 by decide), if_neg (show ¬ (2 : Int) = 1 by decide), if_pos rfl]
        split
        · exact .inl rfl
        · split
          · rename_i s' hs'
            exact .inr (.inl ⟨s', findS_suffix hs', rfl⟩)
          · split
            · exact .inr (.inr rfl)
            · exact .inl rfl
      rcases hcases with e | ⟨s', hs', e⟩ | e
      · rw [e] at ht
        exact ih hb (.inl hf) ht
      · rw [e] at hi ht
        exact ih ⟨hi, hb.sof, hb.rows⟩ (.inl fun n hn => hf n (hs'.subset hn)) ht
      · rw [e] at hi ht
        obtain ⟨h1, h2⟩ := hb.row (List.suffix_refl _) hf ⟨st.stk.length, 0, n_p, ⟨#[]⟩, []⟩ rfl ⟨fun _ => ⟨p_ok, Tm.asOk_nil⟩, fun e => absurd e (show ¬ (0 : Int) = 2 by decide)⟩
        exact ih ⟨hi, h1, h2⟩ (.inl hf) ht
    · have hnm : B n = m := by
        rcases he with he | ⟨u, he⟩
        · cases he
        · injection he with he _
          have := congrArg Tk.name he
          have : B n = B (L m) := this
          rw [this, B_L]
      have hsf := soft_facts hsm
      rw [B_L] at hsf
      have hstep : stepB st ⟨2, B n, B [], [], false⟩ = ⟨q, st.out⟩ := step_k2 rfl (by rw [hnm]; exact hsf.1) (by rw [hnm]; exact hsf.2) (by rw [hs, hnm]; exact findS_hit q (isIn_yes List.mem_cons_self))
      rw [hstep] at hi ht
      exact ih ⟨hi, hb.sof, hb.rows⟩ (.inl hq) ht
  | start n l sf r hn ha hso hr ih =>
    intro st o hb hm ht
    have hf := hm.free (show (1 : Int) ≠ 2 by decide)
    rw [tree_cons'] at ht
    split at ht
    · cases ht
    have hi := hb.inv.step ⟨1, B n, B [], l, sf⟩
    cases hno : noName (B n) with
    | true =>
      have hstep : stepB st ⟨1, B n, B [], l, sf⟩ = st := by
        unfold stepB
        rw [if_neg (show ¬ (1 : Int) = 0 by decide), if_neg (show ¬ (1 : Int) = 3 by decide), if_pos rfl, if_pos hno]
      rw [hstep] at ht
      exact ih hb (.inl hf) ht
    | false =>
      have hstep := step_k1 (st := st) (t := ⟨1, B n, B [], l, sf⟩) rfl hno
      rw [hstep] at hi ht
      have hsx := openedS_suffix (B n) st.stk
      obtain ⟨h1, h2⟩ := hb.row hsx hf ⟨(openedS (B n) st.stk).length, 0, B n, ⟨#[]⟩, once l⟩ rfl ⟨fun _ => ⟨by show nmOk (L (B n)); rw [L_B]; exact hn, once_ok ha⟩, fun e => absurd e (show ¬ (0 : Int) = 2 by decide)⟩
      refine ih ⟨hi, h1, h2⟩ (.inl fun m hm => ?_) ht
      have hm : m ∈ (if isIn (B n) voidL = true then openedS (B n) st.stk else B n :: openedS (B n) st.stk) := hm
      split at hm
      · exact hf m (hsx.subset hm)
      · rcases List.mem_cons.1 hm with e | e
        · rw [e, L_B]; exact hso
        · exact hf m (hsx.subset e)
  | none_ n l sf r hn ha hso hE hr ih =>
    intro st o hb hm ht
    have hf := hm.free (show (1 : Int) ≠ 2 by decide)
    rw [tree_cons'] at ht
    split at ht
    · cases ht
    have hi := hb.inv.step ⟨1, B n, B [], l, sf⟩
    obtain ⟨f1, f2⟩ := soft_facts hso
    have hstep := step_k1 (st := st) (t := ⟨1, B n, B [], l, sf⟩) rfl f1
    rw [if_neg (show ¬ isIn (B n) voidL = true by rw [f2]; simp)] at hstep
    rw [hstep] at hi ht
    have hsx := openedS_suffix (B n) st.stk
    obtain ⟨h1, h2⟩ := hb.row hsx hf ⟨(openedS (B n) st.stk).length, 0, B n, ⟨#[]⟩, once l⟩ rfl ⟨fun _ => ⟨by show nmOk (L (B n)); rw [L_B]; exact hn, once_ok ha⟩, fun e => absurd e (show ¬ (0 : Int) = 2 by decide)⟩
    exact ih ⟨hi, h1, h2⟩ (.inr ⟨B n, openedS (B n) st.stk, rfl, fun m hm => hf m (hsx.subset hm), by rw [L_B]; exact hso, by rw [L_B]; exact hE⟩) ht
  | one n l sf d r hn ha hso hd hraw hE hr ih =>
    intro st o hb hm ht
    have hf := hm.free (show (1 : Int) ≠ 2 by decide)
    rw [tree_cons'] at ht
    split at ht
    · cases ht
    have hi := hb.inv.step ⟨1, B n, B [], l, sf⟩
    obtain ⟨f1, f2⟩ := soft_facts hso
    have hstep := step_k1 (st := st) (t := ⟨1, B n, B [], l, sf⟩) rfl f1
    rw [if_neg (show ¬ isIn (B n) voidL = true by rw [f2]; simp)] at hstep
    rw [hstep] at hi ht
    have hsx := openedS_suffix (B n) st.stk
    obtain ⟨h1, h2⟩ := hb.row hsx hf ⟨(openedS (B n) st.stk).length, 0, B n, ⟨#[]⟩, once l⟩ rfl ⟨fun _ => ⟨by show nmOk (L (B n)); rw [L_B]; exact hn, once_ok ha⟩, fun e => absurd e (show ¬ (0 : Int) = 2 by decide)⟩
    rw [tree_cons'] at ht
    split at ht
    · cases ht
    have hi2 := hi.step (tx d)
    have hstep2 := step_text (d := d) hd (B n :: openedS (B n) st.stk) (st.out ++ [⟨(openedS (B n) st.stk).length, 0, B n, ⟨#[]⟩, once l⟩]) (fun y hy => by
      rw [List.getLast?_append] at hy
      have hy : some (⟨(openedS (B n) st.stk).length, 0, B n, ⟨#[]⟩, once l⟩ : Ro) = some y := by simpa using hy
      injection hy with hy
      rw [← hy]; exact .inl (show (0 : Int) ≠ 1 by decide))
    rw [hstep2] at hi2 ht
    refine ih ⟨hi2, sof_snoc h1 (fun m h0 hm hsm => ?_), fun y hy => ?_⟩ (.inr ⟨B n, openedS (B n) st.stk, rfl, fun m hm => hf m (hsx.subset hm), by rw [L_B]; exact hso, by rw [L_B]; exact hE⟩) ht
    · have hle := hi.le
      have heq := hi.eq
      have hlen : (B n :: openedS (B n) st.stk).length = (openedS (B n) st.stk).length + 1 := rfl
      have hto : ((((B n :: openedS (B n) st.stk).length : Nat) : Int)).toNat - 1 = (openedS (B n) st.stk).length := by omega
      have hm : (pathFrom [] (st.out ++ [⟨(openedS (B n) st.stk).length, 0, B n, ⟨#[]⟩, once l⟩]))[((((B n :: openedS (B n) st.stk).length : Nat) : Int)).toNat - 1]? = some m := hm
      rw [hto] at hm
      have hm2 : ((pathFrom [] (st.out ++ [⟨(openedS (B n) st.stk).length, 0, B n, ⟨#[]⟩, once l⟩])).take (B n :: openedS (B n) st.stk).length)[(openedS (B n) st.stk).length]? = some m := by
        rw [List.getElem?_take, if_pos (by omega)]; exact hm
      have heq : (pathFrom [] (st.out ++ [⟨(openedS (B n) st.stk).length, 0, B n, ⟨#[]⟩, once l⟩])).take (B n :: openedS (B n) st.stk).length = (B n :: openedS (B n) st.stk).reverse := heq
      rw [heq, List.reverse_cons, List.getElem?_append_right (by rw [List.length_reverse]; exact Nat.le_refl _), List.length_reverse, Nat.sub_self] at hm2
      have hmn : B n = m := by simpa using hm2
      subst hmn
      refine ⟨rfl, fun hrb => ?_⟩
      rw [L_B] at hrb ⊢
      show lead (isEnd n) (L (B d)) = L (B d)
      rw [L_B]; exact hraw hrb
    · rcases List.mem_append.1 hy with e | e
      · exact h2 y e
      · rw [List.mem_singleton.1 e]; exact text_ok _ _

/-- Rows of a tree that stand within these elements (the last one first). -/
theorem path_take : ∀ (l : List Ro) (p : List ByteArray) (d : Nat), (∀ y ∈ l, (d : Int) ≤ y.depth) → d ≤ p.length → goodFrom p l → (pathFrom p l).take d = p.take d ∧ d ≤ (pathFrom p l).length
  | [], p, d, _, hd, _ => ⟨rfl, hd⟩
  | x :: r, p, d, h, hd, hg => by
    have hx := h x List.mem_cons_self
    obtain ⟨⟨g1, g2, _⟩, g3⟩ := hg
    have hl : (p.take x.depth.toNat).length = x.depth.toNat := by rw [List.length_take]; omega
    obtain ⟨i1, i2⟩ := path_take r (pathStep p x) d (fun y hy => h y (List.mem_cons_of_mem _ hy)) (by unfold pathStep; rw [List.length_append, hl]; omega) g3
    refine ⟨?_, i2⟩
    show (pathFrom (pathStep p x) r).take d = _
    rw [i1]
    unfold pathStep
    rw [List.take_append_of_le_length (by rw [hl]; omega), List.take_take, Nat.min_eq_left (by omega)]
theorem tr_flat (n : Nat) : ∀ (s p : List ByteArray) (l : List Ro), l.length ≤ n → (∀ y ∈ l, (s.length : Int) ≤ y.depth) → Ro.rightFrom s.length l = true → calm l → p.take s.length = s.reverse → s.length ≤ p.length → goodFrom p l → sofFrom p l → (∀ x ∈ l, rowOk x) → Tr s l := by
  induction n with
  | zero =>
    intro s p l h _ _ _ _ _ _ _ _
    obtain rfl : l = [] := List.eq_nil_of_length_eq_zero (by omega)
    exact .nil s
  | succ n ih =>
    intro s p l h hd hr hn hp hpl hg hs hk
    cases l with
    | nil => exact .nil s
    | cons x r =>
      have hx := hd x List.mem_cons_self
      rw [Ro.rightFrom] at hr
      simp only [Bool.and_eq_true, decide_eq_true_eq] at hr
      obtain ⟨⟨⟨r1, r2⟩, r3⟩, r4⟩ := hr
      have hdep : x.depth = (s.length : Int) := by omega
      have hto : x.depth.toNat = s.length := by omega
      obtain ⟨⟨g1, g2, g3, g4, g5⟩, gr⟩ := hg
      obtain ⟨s1, sr⟩ := hs
      obtain ⟨n1, n0, n2⟩ := hn
      have hkx := hk x List.mem_cons_self
      rw [hto, hp, List.reverse_reverse] at g5
      have hlen := len_parts x r
      rw [List.length_cons] at h
      have hib := inn_beh x r
      have hinn : ∀ y ∈ inn x r, x.depth < y.depth := fun y hy => by
        have := mem_tw _ _ y hy
        unfold deep at this
        simpa using this
      have hbd : ∀ y ∈ beh x r, (s.length : Int) ≤ y.depth := fun y hy => hd y (List.mem_cons_of_mem _ (by rw [← hib]; exact List.mem_append_right _ hy))
      have hbh : ∀ y, (beh x r).head? = some y → y.depth ≤ (s.length : Int) := fun y hy => by
        have : deep x.depth y = false := Ro.stops (deep x.depth) r y (by rw [← Wr.dw_drop]; exact hy)
        unfold deep at this
        have := of_decide_eq_false this
        omega
      have hps : pathStep p x = s.reverse ++ (if x.kind = 0 then [x.name] else []) := by
        unfold pathStep
        rw [hto, hp]
      have hkr : ∀ y ∈ r, rowOk y := fun y hy => hk y (List.mem_cons_of_mem _ hy)
      have hfit : Fit s x := ⟨hdep, r3, fun h0 => ⟨(g5 h0).1, (g5 h0).2, (hkx.1 h0).1, (hkx.1 h0).2⟩, hkx.2, n1⟩
      rw [hps] at gr sr
      rw [← hib] at gr sr r4
      obtain ⟨gi, gb⟩ := good_append gr
      obtain ⟨si, sb⟩ := sof_append sr
      have hcalm : calm (inn x r) ∧ calm (beh x r) := by
        have hsplit : ∀ a b : List Ro, calm (a ++ b) → calm a ∧ calm b := fun a => by
          induction a with
          | nil => intro b hc; exact ⟨trivial, hc⟩
          | cons y a ih =>
            intro b hc
            obtain ⟨c1, c2, c3⟩ := hc
            obtain ⟨k1, k2⟩ := ih b c3
            refine ⟨⟨c1, fun z hz => c2 z ?_, k1⟩, k2⟩
            cases a with
            | nil => cases hz
            | cons u v => exact hz
        exact hsplit _ _ (by rw [hib]; exact n2)
      have hlp : s.length ≤ (s.reverse ++ (if x.kind = 0 then [x.name] else [])).length := by rw [List.length_append, List.length_reverse]; omega
      have hpt := path_take (inn x r) (s.reverse ++ (if x.kind = 0 then [x.name] else [])) s.length (fun y hy => by have := hinn y hy; omega) hlp gi
      have hpb : (pathFrom (s.reverse ++ (if x.kind = 0 then [x.name] else [])) (inn x r)).take s.length = s.reverse := by
        rw [hpt.1, List.take_append_of_le_length (by rw [List.length_reverse]; exact Nat.le_refl _), List.take_of_length_le (by rw [List.length_reverse]; exact Nat.le_refl _)]
      rw [Ro.right_append, Bool.and_eq_true] at r4
      have hbr : Ro.rightFrom s.length (beh x r) = true := Ro.right_head r4.2 hbh
      have hbeh := ih s _ (beh x r) (by omega) hbd hbr hcalm.2 hpb hpt.2 gb sb (fun y hy => hkr y (by rw [← hib]; exact List.mem_append_right _ hy))
      by_cases h0 : x.kind = 0
      · rw [if_pos h0] at gi si r4
        have hrev : s.reverse ++ [x.name] = (x.name :: s).reverse := by rw [List.reverse_cons]
        rw [hrev] at gi si
        have hl1 : (x.name :: s).length = s.length + 1 := rfl
        have hinr : Ro.rightFrom ((x.name :: s).length : Nat) (inn x r) = true := by
          have e : (((x.name :: s).length : Nat) : Int) = x.depth + 1 := by omega
          rw [e]; exact r4.1
        have htr := ih (x.name :: s) (x.name :: s).reverse (inn x r) (by omega) (fun y hy => by have := hinn y hy; omega) hinr hcalm.1 (List.take_of_length_le (by rw [List.length_reverse]; exact Nat.le_refl _)) (by rw [List.length_reverse]; exact Nat.le_refl _) gi si (fun y hy => hkr y (by rw [← hib]; exact List.mem_append_left _ hy))
        have hfst : ∀ y t, inn x r = y :: t → y.depth = x.depth + 1 ∧ fits (x.name :: s).reverse y ∧ sofRow (x.name :: s).reverse y := fun y t e => by
          have e2 := r4.1
          have e3 := hinn y (by rw [e]; exact List.mem_cons_self)
          rw [e] at gi si
          rw [e, Ro.rightFrom] at e2
          simp only [Bool.and_eq_true, decide_eq_true_eq] at e2
          exact ⟨by omega, gi.1, si.1⟩
        have hat : ∀ y : Ro, y.depth = x.depth + 1 → (x.name :: s).reverse[y.depth.toNat - 1]? = some x.name := fun y hy => by
          rw [List.reverse_cons, List.getElem?_append_right (by rw [List.length_reverse]; omega), List.length_reverse, show y.depth.toNat - 1 - s.length = 0 by omega]; rfl
        refine .one s x r hfit (fun hh => ?_) (fun _ => htr) (fun hh hso => ?_) (fun h1 => by omega) hbeh
        · cases hi : inn x r with
          | nil => rfl
          | cons y t =>
            obtain ⟨e1, e2, e3⟩ := hfst y t hi
            have := e2.2.2.2.1 x.name (by omega) (hat y e1)
            rw [holds_void h0 hh] at this; cases this
        · cases hi : inn x r with
          | nil => exact .inl rfl
          | cons y t =>
            obtain ⟨e1, e2, e3⟩ := hfst y t hi
            obtain ⟨y1, y2⟩ := e3 x.name (by omega) (hat y e1) hso
            have ht : t = [] := by
              cases t with
              | nil => rfl
              | cons z u =>
                exfalso
                have q1 := r4.1
                have q3 := hinn z (by rw [hi]; exact List.mem_cons_of_mem _ List.mem_cons_self)
                have q4 := hcalm.1
                have q5 := si
                rw [hi] at q1 q4 q5
                rw [Ro.rightFrom, Ro.rightFrom, if_neg (by omega)] at q1
                simp only [Bool.and_eq_true, decide_eq_true_eq] at q1
                have hzd : z.depth = x.depth + 1 := by omega
                have hpz : (pathStep (x.name :: s).reverse y)[z.depth.toNat - 1]? = some x.name := by
                  unfold pathStep
                  rw [if_neg (by omega), List.append_nil, List.getElem?_take, if_pos (by omega)]
                  exact hat z hzd
                have hz1 := (q5.2.1 x.name (by omega) hpz hso).1
                exact q4.2.1 z rfl ⟨y1, hz1, by omega⟩
            subst ht
            exact .inr ⟨y, rfl, y1, y2⟩
      · rw [if_neg h0] at r4
        have hin : inn x r = [] := by
          cases hi : inn x r with
          | nil => rfl
          | cons y t =>
            exfalso
            have e3 := hinn y (by rw [hi]; exact List.mem_cons_self)
            have e2 := r4.1
            rw [hi, Ro.rightFrom] at e2
            simp only [Bool.and_eq_true, decide_eq_true_eq] at e2
            omega
        refine .one s x r hfit (fun _ => hin) (fun hh => absurd (holds_kind hh).1 h0) (fun hh => absurd (holds_kind hh).1 h0) (fun h1 y hy hy1 => ?_) hbeh
        have e1 := hbh y hy
        have e2 := hbd y (List.mem_of_mem_head? hy)
        have hb : beh x r = r := by rw [hin, List.nil_append] at hib; exact hib
        rw [hb] at hy
        exact n0 y hy ⟨h1, hy1, by omega⟩
/-- What is built of such tokens comes back. -/
theorem built_back {T : List Tk} {o : List Ro} (hS : Sof T) (hC : ∀ t ∈ T, TkCl t) (h : treeB ⟨[], []⟩ T = some o) : Tr [] o ∧ small o ∧ (∀ x ∈ o, RowCl x) ∧ ∀ x ∈ o, 0 ≤ x.depth := by
  obtain ⟨h1, h2, h3, h4⟩ := tree_all h
  obtain ⟨s1, s2⟩ := sof_build hS ⟨inv_nil, trivial, fun x hx => by cases hx⟩ (.inl fun n hn => by cases hn) h
  have hg := tree_good inv_nil h
  have h0 := depth_right h2
  exact ⟨tr_flat o.length [] [] o (Nat.le_refl _) (fun y hy => h0 y hy) h2 hg.2 rfl (Nat.le_refl _) hg.1 s1 s2, h4, cl_tree hC (fun x hx => by cases hx) h, h0⟩

end Go.Proofs.YtenmlpfjeohkiaaGreatDoor.Wm

namespace Go.Proofs.YtenmlpfjeohkiaaGreatDoor.Wm
set_option linter.unusedVariables false
set_option linter.unusedSimpArgs false
open Ba Fm Rm Nm Bm
open Ro (At Ro)
open Bu (rdy)
open Tm (Tk bulkA bulkT bulk within)
open Wr (rb insideB rest)
/-- What a row costs, written. -/
def cost (x : Ro) : Nat := if x.kind = 0 then 5 + 2 * x.name.size + 6 * bulkA x.attrs + 4 * x.attrs.length else if x.kind = 1 then 6 * x.data.size else 7 + x.data.size
def costs (l : List Ro) : Nat := (l.map cost).sum
theorem costs_append (a b : List Ro) : costs (a ++ b) = costs a + costs b := by unfold costs; rw [List.map_append, List.sum_append]
theorem costs_one (x : Ro) : costs [x] = cost x := by unfold costs; rw [List.map_cons, List.map_nil, List.sum_cons, List.sum_nil, Nat.add_zero]
theorem cost_node (raw : Bool) (x : Ro) : (node raw x).length + (if holds x = true then (endW x).length else 0) ≤ cost x := by
  have h1 := Wr.len_wAs x.attrs
  have h2 := (len_esc false (L x.data)).2.1
  rw [size_L] at h2
  have he : (endW x).length = x.name.size + 3 := by
    unfold endW
    simp only [List.length_append, List.length_cons, List.length_nil, size_L]
    omega
  rw [he]
  unfold cost node tagW
  by_cases h0 : x.kind = 0
  · rw [if_pos h0, if_pos h0]
    simp only [List.length_append, List.length_cons, List.length_nil, size_L]
    split <;> omega
  · have hif : (if holds x = true then x.name.size + 3 else 0) = 0 := by rw [holds_no h0]; rfl
    rw [if_neg h0, if_neg h0, hif]
    by_cases h1 : x.kind = 1
    · rw [if_pos h1, if_pos h1]
      cases raw with
      | true => rw [if_pos rfl, size_L]; omega
      | false => rw [if_neg (by simp)]; omega
    · rw [if_neg h1, if_neg h1]
      by_cases h2 : x.kind = 2
      · rw [if_pos h2]
        simp only [List.length_append, List.length_cons, List.length_nil, size_L]; omega
      · rw [if_neg h2]
        simp only [List.length_nil]; omega
theorem cost_wr (n : Nat) : ∀ (l : List Ro) (raw : Bool), l.length ≤ n → (wr raw l).length ≤ costs l := by
  induction n with
  | zero =>
    intro l raw h
    obtain rfl : l = [] := List.eq_nil_of_length_eq_zero (by omega)
    rw [wr_nil]; exact Nat.zero_le _
  | succ n ih =>
    intro l raw h
    cases l with
    | nil => rw [wr_nil]; exact Nat.zero_le _
    | cons x r =>
      rw [wr_cons, List.length_append, List.length_append]
      have hp := len_parts x r
      rw [List.length_cons] at h
      have h1 := ih (inn x r) (isIn x.name rawL) (by omega)
      have h2 := ih (beh x r) raw (by omega)
      have h3 := cost_node raw x
      have h4 : costs (x :: r) = cost x + (costs (inn x r) + costs (beh x r)) := by
        rw [← costs_append, inn_beh]
        unfold costs
        rw [List.map_cons, List.sum_cons]
      rw [h4]
      cases hh : holds x with
      | true =>
        rw [hh, if_pos rfl] at h3
        rw [if_pos rfl, List.length_append]
        omega
      | false =>
        rw [hh, if_neg (by simp)] at h3
        rw [if_neg (by simp)]
        simp only [List.length_nil]
        omega
theorem bulk_once (l : List At) : bulkA (once l) ≤ bulkA l ∧ (once l).length ≤ l.length := by
  have hput : ∀ (acc : List At) (a : At), bulkA (Tm.put acc a) ≤ bulkA acc + (a.name.size + a.value.size) ∧ (Tm.put acc a).length ≤ acc.length + 1 := fun acc a => by
    unfold Tm.put
    split
    · omega
    · unfold bulkA
      rw [List.map_append, List.sum_append, List.length_append]
      simp
  have : ∀ (l acc : List At), bulkA (l.foldl Tm.put acc) ≤ bulkA acc + bulkA l ∧ (l.foldl Tm.put acc).length ≤ acc.length + l.length := fun l => by
    induction l with
    | nil => intro acc; exact ⟨Nat.le_add_right _ _, Nat.le_add_right _ _⟩
    | cons a r ih =>
      intro acc
      obtain ⟨i1, i2⟩ := ih (Tm.put acc a)
      obtain ⟨p1, p2⟩ := hput acc a
      have e : bulkA (a :: r) = a.name.size + a.value.size + bulkA r := by simp [bulkA]
      rw [List.foldl_cons, List.length_cons]
      omega
  obtain ⟨h1, h2⟩ := this l []
  have e : bulkA [] = 0 := rfl
  have e2 : ([] : List At).length = 0 := rfl
  unfold once
  omega
theorem cost_step (st : St) (t : Tk) : costs (stepB st t).out ≤ costs st.out + (6 * bulkT t + 7) := by
  have hb : bulkT t = t.name.size + t.data.size + bulkA t.attrs + t.attrs.length := rfl
  unfold stepB
  split
  · split
    · omega
    · have hnew : ∀ d : Int, cost ⟨d, 1, ⟨#[]⟩, t.data, []⟩ ≤ 6 * bulkT t + 7 := fun d => by
        unfold cost
        rw [if_neg (show ¬ (1 : Int) = 0 by decide), if_pos rfl]
        show 6 * t.data.size ≤ _
        omega
      show costs (addText st.out st.stk.length t.data) ≤ _
      unfold addText
      split
      · rename_i y hy
        split
        · rename_i hyk
          have he := Bm.last_snoc hy
          have hc : costs st.out = costs st.out.dropLast + cost y := by
            conv => lhs; rw [he]
            rw [costs_append, costs_one]
          rw [costs_append, costs_one, hc]
          have hy1 : cost y = 6 * y.data.size := by unfold cost; rw [if_neg (by omega), if_pos hyk.1]
          have hy2 : cost ⟨y.depth, y.kind, y.name, y.data ++ t.data, y.attrs⟩ = 6 * (y.data.size + t.data.size) := by
            unfold cost
            rw [if_neg (show ¬ y.kind = 0 by omega), if_pos (show y.kind = 1 from hyk.1)]
            show 6 * (y.data ++ t.data).size = _
            rw [size_append]
          rw [hy1, hy2]
          omega
        · rw [costs_append, costs_one]; have := hnew st.stk.length; omega
      · rw [costs_append, costs_one]; have := hnew st.stk.length; omega
  split
  · rw [costs_append, costs_one]
    have : cost ⟨st.stk.length, 2, ⟨#[]⟩, t.data, []⟩ = 7 + t.data.size := rfl
    omega
  split
  · split
    · omega
    · rw [costs_append, costs_one]
      have e : cost ⟨(openedS t.name st.stk).length, 0, t.name, ⟨#[]⟩, once t.attrs⟩ = 5 + 2 * t.name.size + 6 * bulkA (once t.attrs) + 4 * (once t.attrs).length := rfl
      obtain ⟨h1, h2⟩ := bulk_once t.attrs
      omega
  split
  · split
    · omega
    · split
      · exact Nat.le_add_right _ _
      · split
        · rw [costs_append, costs_one]
          have e : cost ⟨st.stk.length, 0, n_p, ⟨#[]⟩, []⟩ = 7 := rfl
          omega
        · omega
  · omega
theorem cost_tree : ∀ {T : List Tk} {st : St} {o : List Ro}, treeB st T = some o → costs o ≤ costs st.out + (6 * bulk T + 7 * T.length)
  | [], st, o, h => by
    injection h with h
    rw [← h]; exact Nat.le_add_right _ _
  | t :: r, st, o, h => by
    rw [tree_cons'] at h
    split at h
    · cases h
    · have h1 := cost_tree h
      have h2 := cost_step st t
      have e : bulk (t :: r) = bulkT t + bulk r := by unfold bulk; rw [List.map_cons, List.sum_cons]
      rw [e, List.length_cons]
      omega
theorem rb_cost {x : Ro} (h : Ro.okRow x = true) : rb x ≤ cost x := by
  unfold rb cost
  by_cases h0 : x.kind = 0
  · rw [if_pos h0]
    obtain ⟨hr, _⟩ := raw_row h h0
    have hd : x.data.size = 0 := by rw [hr]; rfl
    omega
  · rw [if_neg h0]
    have hn : x.name.size = 0 ∧ x.attrs = [] := by
      unfold Ro.okRow at h
      rw [if_neg (by simpa using h0)] at h
      simp only [Bool.and_eq_true] at h
      obtain ⟨⟨_, h1⟩, h2⟩ := h
      refine ⟨by rw [Bm.empty_name h1]; rfl, List.eq_nil_of_length_eq_zero (by have := beq_iff_eq.1 h2; omega)⟩
    rw [hn.1, hn.2]
    have e : bulkA [] = 0 := rfl
    rw [e]
    simp only [List.length_nil]
    split <;> omega
theorem cost_mem {l : List Ro} {x : Ro} (h : x ∈ l) : cost x ≤ costs l := by
  unfold costs
  induction l with
  | nil => cases h
  | cons y r ih =>
    rw [List.map_cons, List.sum_cons]
    rcases List.mem_cons.1 h with rfl | h
    · omega
    · have := ih h; omega
end Go.Proofs.YtenmlpfjeohkiaaGreatDoor.Wm

namespace Go.Proofs.YtenmlpfjeohkiaaGreatDoor.Wr
set_option maxRecDepth 100000
set_option linter.unusedVariables false
set_option linter.unusedSimpArgs false
open Go.RowKit Ba Fm Fo Nm Wm Bm
open Ro (At Ro Cw ros rowO rowV below_new range2 range5 cells Rv bare rows_new refSame1)
open Re (Tab)
open Bu (Parse1 Says rdy)
end Go.Proofs.YtenmlpfjeohkiaaGreatDoor.Wr

namespace Go.Proofs.YtenmlpfjeohkiaaGreatDoor.Wm
set_option linter.unusedVariables false
set_option linter.unusedSimpArgs false
open Ba Fm Rm Nm Bm
open Ro (At Ro deeper)
open Bu (rdy)
open Wr (insideB rest rb)
open Tm (Tk tx txt within asOk nmOk softOr rawB softB isEnd lead trail comm cont bulk)
def sh (d : Int) (x : Ro) : Ro := { x with depth := x.depth + d }
theorem deeper_eq (d : Int) (l : List Ro) : deeper d l = l.map (sh d) := rfl
theorem deep_sh (d : Int) (x y : Ro) : deep (sh d x).depth (sh d y) = deep x.depth y := by
  unfold deep sh
  exact decide_eq_decide.2 (by constructor <;> intro h <;> simp only at * <;> omega)
theorem tw_map {p : Ro → Bool} {q : Ro → Bool} {f : Ro → Ro} (h : ∀ y, p (f y) = q y) : ∀ l : List Ro, (l.map f).takeWhile p = (l.takeWhile q).map f ∧ (l.map f).dropWhile p = (l.dropWhile q).map f
  | [] => ⟨rfl, rfl⟩
  | a :: l => by
    obtain ⟨h1, h2⟩ := tw_map h l
    rw [List.map_cons, List.takeWhile_cons, List.dropWhile_cons, List.takeWhile_cons, List.dropWhile_cons, h a]
    cases q a with
    | true => simp [h1, h2]
    | false => simp
theorem inn_sh (d : Int) (x : Ro) (r : List Ro) : inn (sh d x) (deeper d r) = deeper d (inn x r) ∧ beh (sh d x) (deeper d r) = deeper d (beh x r) := by
  unfold inn beh
  rw [deeper_eq, deeper_eq, deeper_eq]
  exact tw_map (fun y => deep_sh d x y) r
theorem wr_sh (d : Int) (n : Nat) : ∀ (l : List Ro) (raw : Bool), l.length ≤ n → wr raw (deeper d l) = wr raw l := by
  induction n with
  | zero =>
    intro l raw h
    obtain rfl : l = [] := List.eq_nil_of_length_eq_zero (by omega)
    rfl
  | succ n ih =>
    intro l raw h
    cases l with
    | nil => rfl
    | cons x r =>
      have hlen := len_parts x r
      rw [List.length_cons] at h
      obtain ⟨h1, h2⟩ := inn_sh d x r
      have hd : deeper d (x :: r) = sh d x :: deeper d r := rfl
      rw [hd, wr_cons, wr_cons, h1, h2, ih (beh x r) raw (by omega)]
      have hn : (sh d x).name = x.name := rfl
      rw [hn, ih (inn x r) _ (by omega)]
      rfl

/-- The same trees, moved up, within fewer elements. -/
theorem tr_up {s : List ByteArray} {l : List Ro} (h : Tr s l) : ∀ a b : List ByteArray, s = a ++ b → Tr a (deeper (-(b.length : Int)) l) := by
  induction h with
  | nil s => intro a b _; exact .nil a
  | one s x r hf hn hk ha ht ho ihk iho =>
    intro a b e
    subst e
    obtain ⟨h1, h2⟩ := inn_sh (-(b.length : Int)) x r
    have hfa := hf.at_
    rw [List.length_append] at hfa
    refine .one a (sh (-(b.length : Int)) x) (deeper (-(b.length : Int)) r) ⟨?_, hf.ok, fun h0 => ?_, hf.note, hf.text⟩ ?_ ?_ ?_ ?_ ?_
    · show x.depth + -(b.length : Int) = a.length
      omega
    · obtain ⟨e1, e2, e3, e4⟩ := hf.el h0
      refine ⟨?_, e2, e3, e4⟩
      have := quiet_take a.length e1
      rwa [List.take_left] at this
    · intro hh
      rw [h1, hn hh]; rfl
    · intro hh
      rw [h1]
      exact ihk hh (x.name :: a) b rfl
    · intro hh hs
      rw [h1]
      rcases ha hh hs with e | ⟨y, e, e1, e2⟩
      · rw [e]; exact .inl rfl
      · rw [e]; exact .inr ⟨sh (-(b.length : Int)) y, rfl, e1, e2⟩
    · intro h1k y hy
      rw [h2] at hy
      cases hb : beh x r with
      | nil => rw [hb] at hy; cases hy
      | cons z t =>
        rw [hb] at hy
        have hy : some (sh (-(b.length : Int)) z) = some y := hy
        injection hy with hy
        rw [← hy]
        exact ht h1k z (by rw [hb]; rfl)
    · rw [h2]
      exact iho a b rfl

theorem tw_app {α : Type} {p : α → Bool} : ∀ {a b : List α}, (∀ z, b.head? = some z → p z = false) → (a ++ b).takeWhile p = a.takeWhile p
  | [], b, h => by
    cases b with
    | nil => rfl
    | cons z t => rw [List.nil_append, List.takeWhile_cons, if_neg (by rw [h z rfl]; simp)]; rfl
  | x :: a, b, h => by
    rw [List.cons_append, List.takeWhile_cons, List.takeWhile_cons, tw_app h]
/-- What one node of such trees is, and what stands within it. -/
structure NodeOf (y : Ro) (K : List Ro) (s : List ByteArray) : Prop where
  at_ : y.depth = (s.length : Int)
  none_ : holds y = false → K = []
  some_ : holds y = true → Tr (y.name :: s) K
  alone : holds y = true → softOr (L y.name) = true → Alone y K
theorem tr_node {s : List ByteArray} {l : List Ro} (h : Tr s l) : ∀ (k : Nat) (y : Ro), l[k]? = some y → ∃ s', NodeOf y (rest l y.depth (k + 1)) s' := by
  induction h with
  | nil s => intro k y hy; cases hy
  | one s x r hf hn hk ha ht ho ihk iho =>
    intro k y hy
    cases k with
    | zero =>
      have hy : some x = some y := hy
      injection hy with hy
      subst hy
      exact ⟨s, hf.at_, hn, hk, ha⟩
    | succ j =>
      have hy : r[j]? = some y := hy
      have hr : rest (x :: r) y.depth (j + 1 + 1) = (r.drop (j + 1)).takeWhile (deep y.depth) := rfl
      have hib := inn_beh x r
      rw [hr]
      by_cases hj : j < (inn x r).length
      · have hyi : (inn x r)[j]? = some y := by rw [← hib, List.getElem?_append_left hj] at hy; exact hy
        have hyd : x.depth < y.depth := by
          have := mem_tw _ _ y (List.mem_of_getElem? hyi)
          unfold deep at this
          simpa using this
        have hhead : ∀ z, (beh x r).head? = some z → deep y.depth z = false := fun z hz => by
          have : deep x.depth z = false := Ro.stops (deep x.depth) r z (by rw [← Wr.dw_drop]; exact hz)
          unfold deep at this ⊢
          have := of_decide_eq_false this
          exact decide_eq_false (by omega)
        have hd : r.drop (j + 1) = (inn x r).drop (j + 1) ++ beh x r := by
          conv => lhs; rw [← hib]
          rw [List.drop_append, show j + 1 - (inn x r).length = 0 by omega, List.drop_zero]
        rw [hd, tw_app hhead]
        cases hh : holds x with
        | true => exact ihk hh j y hyi
        | false => rw [hn hh] at hj; simp at hj
      · have hyb : (beh x r)[j - (inn x r).length]? = some y := by rw [← hib, List.getElem?_append_right (by omega)] at hy; exact hy
        have hd : r.drop (j + 1) = (beh x r).drop (j - (inn x r).length + 1) := by
          conv => lhs; rw [← hib]
          rw [List.drop_append, List.drop_eq_nil_of_le (by omega), List.nil_append]
          congr 1
          omega
        rw [hd]
        exact iho _ y hyb

theorem no_end {n l : List UInt8} (h : (60 : UInt8) ∉ l) : lead (isEnd n) l = l ∧ trail (isEnd n) l = [] := by
  have := Tm.lead_to (p := isEnd n) (s := l) (r := []) (fun q hq hs => by
    rw [List.append_nil]
    cases he : isEnd n q with
    | false => rfl
    | true =>
      exfalso
      unfold isEnd at he
      rw [Bool.and_eq_true, Bool.and_eq_true] at he
      cases q with
      | nil => exact hq rfl
      | cons c q =>
        have h1 := he.1.1
        unfold Tm.pre at h1
        have hc : c = 60 := by
          cases q with
          | nil => simp at h1
          | cons d q => simp at h1; exact h1.1
        rw [hc] at hs
        exact h (hs.subset List.mem_cons_self)) (.inl rfl)
  rwa [List.append_nil] at this
theorem within_none (n : List UInt8) : within n [] = [] := by
  have hd : dec [] = [] := dec_nil
  have hl : lead (isEnd n) [] = [] := rfl
  have ht : trail (isEnd n) [] = [] := rfl
  unfold within
  cases hr : rawB n with
  | true => rw [Tm.cont_r hr, hl, ht, To.cut_nil]; rfl
  | false =>
    cases hs : softB n with
    | true => rw [Tm.cont_s hr hs, hl, ht, hd, To.cut_nil]; rfl
    | false => rw [Tm.cont_n (by unfold softOr; rw [hr, hs]; rfl), To.cut_nil]; rfl
theorem one_text {d : List UInt8} (hd : d ≠ []) : treeB ⟨[], []⟩ [tx d] = some [⟨0, 1, ⟨#[]⟩, B d, []⟩] := by
  rw [tree_cons', step_text hd [] [] (fun y hy => by cases hy), if_neg]
  · rfl
  · show ¬ tooBig [_] = true
    exact not_tooBig ⟨by simp, fun y hy => by rw [List.mem_singleton.1 hy]; show (0 : Int) < 60; omega⟩
/-- What stands within one node, written, read within an element of that name. -/
theorem node_back {y : Ro} {K : List Ro} {s : List ByteArray} (h : NodeOf y K s) (hh : holds y = true) (hs : small K) (hd : ∀ z ∈ K, (s.length : Int) < z.depth) :
    treeB ⟨[], []⟩ (within (L y.name) (wr (isIn y.name rawL) K)) = some (deeper (-1 - y.depth) K) ∧ (within (L y.name) (wr (isIn y.name rawL) K)).length ≤ 2 * K.length + 1 := by
  have ht := h.some_ hh
  have hat := h.at_
  have hup := tr_up ht [] (y.name :: s) rfl
  have hdd : (-(((y.name :: s).length : Nat) : Int)) = -1 - y.depth := by rw [List.length_cons]; omega
  rw [hdd] at hup
  have hsu : small (deeper (-1 - y.depth) K) := ⟨by rw [deeper_eq, List.length_map]; exact hs.1, fun z hz => by
    obtain ⟨u, hu, rfl⟩ := List.mem_map.1 hz
    have := hs.2 u hu
    show u.depth + (-1 - y.depth) < 60
    omega⟩
  cases hso : softOr (L y.name) with
  | false =>
    have hraw : isIn y.name rawL = false := by
      unfold softOr at hso
      rw [Bool.or_eq_false_iff, rawB_eq] at hso
      exact hso.1
    have hw : within (L y.name) (wr false K) = Tm.cut (wr false K) := by unfold within; rw [Tm.cont_n hso]; rfl
    rw [hraw, hw, ← wr_sh (-1 - y.depth) K.length K false (Nat.le_refl _)]
    refine ⟨back hup hsu, ?_⟩
    rw [cut_wr hup]
    have := len_toks _ (deeper (-1 - y.depth) K) (Nat.le_refl _)
    rw [deeper_eq, List.length_map] at this
    rw [deeper_eq]
    omega
  | true =>
    rcases h.alone hh hso with e | ⟨z, e, hz, hzr⟩
    · subst e
      have hw : within (L y.name) (wr (isIn y.name rawL) []) = [] := by
        rw [wr_nil]
        exact within_none _
      rw [hw]
      exact ⟨rfl, by simp⟩
    · subst e
      have hfit : Fit (y.name :: s) z := by cases ht; assumption
      have hzt := text_row hfit.ok hz
      have hne := data_ne (hfit.text hz)
      have hzd : z.depth = y.depth + 1 := by
        have := hfit.at_
        rw [List.length_cons] at this
        omega
      have hdz : deeper (-1 - y.depth) [z] = [⟨0, 1, ⟨#[]⟩, B (L z.data), []⟩] := by
        show [sh (-1 - y.depth) z] = _
        rw [hzt, B_L]
        unfold sh
        simp only
        rw [show z.depth + (-1 - y.depth) = 0 by omega]
        rfl
      have hwz : wr (isIn y.name rawL) [z] = (if isIn y.name rawL = true then L z.data else esc false (L z.data)) := by
        rw [wr_cons, holds_no (by rw [hz]; decide), if_neg (by simp), show beh z [] = [] from rfl, wr_nil, List.nil_append, List.append_nil]
        unfold node
        rw [if_neg (by rw [hz]; decide), if_pos hz]
      have hw : within (L y.name) (wr (isIn y.name rawL) [z]) = [tx (L z.data)] := by
        rw [hwz]
        unfold within
        cases hr : rawB (L y.name) with
        | true =>
          have hrl := hr
          rw [rawB_eq] at hrl
          rw [Tm.cont_r hr, if_pos hrl]
          have h1 := hzr hr
          have h2 := Tm.lead_trail (isEnd (L y.name)) (L z.data)
          rw [h1] at h2
          have h3 : trail (isEnd (L y.name)) (L z.data) = [] := by
            have := congrArg List.length h2
            rw [List.length_append] at this
            exact List.eq_nil_of_length_eq_zero (by omega)
          rw [h1, h3, Tm.txt_some hne, To.cut_nil]; rfl
        | false =>
          have hsb : softB (L y.name) = true := by
            unfold softOr at hso
            rwa [hr, Bool.false_or] at hso
          have hrl := hr
          rw [rawB_eq] at hrl
          rw [Tm.cont_s hr hsb, if_neg (by rw [hrl]; simp)]
          obtain ⟨h1, h2⟩ := no_end (n := L y.name) (esc_free false (L z.data)).1
          rw [h1, h2, dec_esc, Tm.txt_some hne, To.cut_nil]; rfl
      rw [hw, hdz]
      exact ⟨one_text hne, by simp⟩

theorem costs_rest (l : List Ro) (D : Int) (k : Nat) : costs (rest l D k) ≤ costs l := by
  have h1 := congrArg costs (List.take_append_drop k l)
  have h2 := congrArg costs (List.takeWhile_append_dropWhile (p := deep D) (l := l.drop k))
  rw [costs_append] at h1 h2
  show costs ((l.drop k).takeWhile (deep D)) ≤ _
  omega
/-- What stands within one node of what was parsed comes back. -/
theorem inside_back {s : List UInt8} {o : List Ro} (hs : s.length ≤ 300) (h : treeB ⟨[], []⟩ (within [] (rdy s)) = some o) :
    o.length ≤ 4096 ∧ (∀ x ∈ o, rb x ≤ 60000) ∧ (∀ x ∈ o, 0 ≤ x.depth ∧ x.depth < 60) ∧ ∀ (k : Nat) (y : Ro), o[k]? = some y → (insideB o k).length ≤ 60000 ∧ (y.kind ≠ 0 → insideB o k = []) ∧ y.name.size ≤ 60000 ∧
      (y.kind = 0 → treeB ⟨[], []⟩ (within (L y.name) (rdy (insideB o k))) = some (deeper (-1 - y.depth) (rest o y.depth (k + 1))) ∧ (within (L y.name) (rdy (insideB o k))).length ≤ 10000) := by
  have hcl := cl_within (n := []) (cl_ready s)
  have hw := Tm.within_nil (rdy s)
  have hS : Sof (within [] (rdy s)) := by rw [hw]; exact sof_all _
  obtain ⟨h1, h2, h3, h4⟩ := built_back hS hcl h
  have hct := cost_tree h
  have hlr := Bu.len_rdy s
  have hwl := Tm.within_len [] (rdy s)
  have hwb := Tm.bulk_within [] (rdy s)
  have hc0 : costs (⟨[], []⟩ : St).out = 0 := rfl
  have hco : costs o ≤ 60000 := by omega
  obtain ⟨_, h5, _, _⟩ := tree_all h
  have hrb : ∀ x ∈ o, rb x ≤ 60000 := fun x hx => by
    have := cost_mem hx
    have := rb_cost (Ro.right_ok _ 0 h5 x hx)
    omega
  refine ⟨h2.1, hrb, fun x hx => ⟨h4 x hx, h2.2 x hx⟩, fun k y hy => ?_⟩
  have hym := List.mem_of_getElem? hy
  have hIn : insideB o (k : Int) = (if holds y = true then wr (isIn y.name rawL) (rest o y.depth (k + 1)) else []) := by
    unfold insideB
    rw [if_neg (by omega), if_pos (by omega), show ((k : Int)).toNat = k by omega, hy]
  have hsub : ∀ z ∈ rest o y.depth (k + 1), z ∈ o := fun z hz => List.mem_of_mem_drop (List.takeWhile_sublist _ |>.subset hz)
  have hrl : (rest o y.depth (k + 1)).length ≤ o.length := by
    have h1 := (List.takeWhile_sublist (p := deep y.depth) (l := o.drop (k + 1))).length_le
    rw [List.length_drop] at h1
    show ((o.drop (k + 1)).takeWhile (deep y.depth)).length ≤ _
    omega
  have hcr := costs_rest o y.depth (k + 1)
  have hlw := cost_wr _ (rest o y.depth (k + 1)) (isIn y.name rawL) (Nat.le_refl _)
  refine ⟨?_, fun hk => ?_, ?_, fun hk => ?_⟩
  · rw [hIn]
    split
    · omega
    · simp
  · rw [hIn, holds_no hk, if_neg (by simp)]
  · have := hrb y hym
    unfold rb at this
    omega
  · obtain ⟨s', hN⟩ := tr_node h1 k y hy
    cases hh : holds y with
    | false =>
      rw [hIn, hh, if_neg (by simp), hN.none_ hh, cl_rdy cl_nil]
      rw [within_none]
      exact ⟨rfl, by simp⟩
    | true =>
      have hc := cl_wr _ (rest o y.depth (k + 1)) (isIn y.name rawL) (Nat.le_refl _) (fun z hz => h3 z (hsub z hz))
      rw [hIn, hh, if_pos rfl, cl_rdy hc]
      have hsm : small (rest o y.depth (k + 1)) := ⟨by have := h2.1; omega, fun z hz => h2.2 z (hsub z hz)⟩
      obtain ⟨b1, b2⟩ := node_back hN hh hsm (fun z hz => by
        have := mem_tw _ _ z hz
        unfold deep at this
        have := of_decide_eq_true this
        have := hN.at_
        omega)
      refine ⟨b1, ?_⟩
      have := h2.1
      omega

end Go.Proofs.YtenmlpfjeohkiaaGreatDoor.Wm
