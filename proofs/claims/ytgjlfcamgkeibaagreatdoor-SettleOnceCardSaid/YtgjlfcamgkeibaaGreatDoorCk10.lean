/-
  Stage 8, in plain words: what is written of clean trees is ready.
  Stage 8, in plain words: what is cut of clean bytes is clean.
  Stage 8, in plain words: what is parsed comes back.
  Stage 8, in plain words: how long what was parsed is, written.
  Plain mathematics of stage 14: trees filtered, written and parsed, round by round. It speaks of no program.
  Walks of stage 7: In and Parse of as many bytes as there may be.
  Walks of stage 14: written and parsed again; Stable.
  Configurations in memory: what a slice of api.Per reads as, a configuration as a value, and in a box.
-/
import Derived.Test.YtgjlfcamgkeibaaGreatDoorCk08
import Derived.Test.YtgjlfcamgkeibaaGreatDoorCk09
import Derived.Test.YtgjlfcamgkeibaaGreatDoorCk07
import Derived.Test.YtgjlfcamgkeibaaGreatDoorCk02
import Derived.Deep.MidRow
import Derived.BigQuiet
import Derived.Deep.QuietTactic
namespace Go.Proofs.YtgjlfcamgkeibaaGreatDoor.Wm
set_option linter.unusedVariables false
set_option linter.unusedSimpArgs false
open Ba Fm Rm Nm Bm
open Ro (At Ro)
open Ch (rL)
open Bu (rdy)
open Wr (insideB)
def Cl (l : List UInt8) : Prop := rL l = true ∧ (0 : UInt8) ∉ l ∧ (13 : UInt8) ∉ l
theorem cl_nil : Cl [] := ⟨rfl, by simp, by simp⟩
theorem cl_app {a b : List UInt8} (ha : Cl a) (hb : Cl b) : Cl (a ++ b) := by
  refine ⟨?_, fun h => ?_, fun h => ?_⟩
  · rw [(Ch.joins a b ha.1).1]; exact hb.1
  · rcases List.mem_append.1 h with h | h
    · exact ha.2.1 h
    · exact hb.2.1 h
  · rcases List.mem_append.1 h with h | h
    · exact ha.2.2 h
    · exact hb.2.2 h
theorem cl_plain {l : List UInt8} (h : Ch.plain l) : Cl l := ⟨Ch.plain_rL l h, fun e => (h 0 e).2.1 rfl, fun e => (h 13 e).2.2 rfl⟩
theorem cl_rdy {l : List UInt8} (h : Cl l) : rdy l = l := by
  unfold rdy
  rw [Ch.dL_id l h.1 h.2.1, Ch.ln_id l h.2.2]

theorem e1_low (q : Bool) {c : UInt8} (h : c.toNat < 128) (h0 : c ≠ 0) (h13 : c ≠ 13) : Cl (e1 q c) := by
  refine cl_plain fun x hx => ?_
  unfold e1 at hx
  split at hx
  · revert x; decide
  split at hx
  · revert x; decide
  split at hx
  · revert x; decide
  split at hx
  · revert x; decide
  · rw [List.mem_singleton.1 hx]; exact ⟨h, h0, h13⟩
theorem e1_high (q : Bool) {c : UInt8} (h : 128 ≤ c.toNat) : e1 q c = [c] := by
  unfold e1
  have hn : ∀ d : UInt8, d.toNat < 128 → c ≠ d := fun d hd e => by rw [e] at h; omega
  rw [if_neg (hn 38 (by decide)), if_neg (hn 60 (by decide)), if_neg (hn 62 (by decide)), if_neg (fun e => hn 34 (by decide) e.1)]
theorem esc_high (q : Bool) : ∀ (cs t : List UInt8), (∀ x ∈ cs, 128 ≤ x.toNat ∧ x.toNat ≤ 191) → esc q (cs ++ t) = cs ++ esc q t
  | [], t, _ => rfl
  | c :: cs, t, h => by
    have hc := h c List.mem_cons_self
    rw [List.cons_append, esc_byte q (by rintro ⟨rfl, _⟩; exact absurd hc.2 (by decide)), e1_high q hc.1, esc_high q cs t fun x hx => h x (List.mem_cons_of_mem _ hx)]; rfl
theorem at_zero (a : UInt8) (t : List UInt8) : Ch.at' (a :: t) 0 = a.toNat := rfl
theorem at_succ (a : UInt8) (t : List UInt8) (k : Nat) : Ch.at' (a :: t) (k + 1) = Ch.at' t k := by unfold Ch.at'; rw [List.getD_cons_succ]
theorem inn_form {l : List UInt8} {k lo hi : Nat} (h : Ch.inn l k lo hi = true) : k < l.length ∧ lo ≤ Ch.at' l k ∧ Ch.at' l k ≤ hi := by
  unfold Ch.inn at h
  simp only [Bool.and_eq_true, decide_eq_true_eq] at h
  exact h
theorem low_lo (c : Nat) : 128 ≤ Ch.low c := by
  unfold Ch.low
  split
  · omega
  · split <;> omega
theorem high_hi (c : Nat) : Ch.high c ≤ 191 := by
  unfold Ch.high
  split
  · omega
  · split <;> omega
theorem sz_form {h : UInt8} {l : List UInt8} (hs : Ch.sz (h :: l) ≠ 0) : (Ch.sz (h :: l) = 1 ∧ h.toNat < 128) ∨ (128 ≤ h.toNat ∧ ∃ cs t, l = cs ++ t ∧ Ch.sz (h :: l) = cs.length + 1 ∧ (∀ x ∈ cs, 128 ≤ x.toNat ∧ x.toNat ≤ 191) ∧ cs ≠ [] ∧ (h = 194 → cs.length = 1)) := by
  have hz := low_lo h.toNat
  have hy := high_hi h.toNat
  unfold Ch.sz at hs ⊢
  split at hs
  · rename_i h1
    rw [if_pos h1]
    exact .inl ⟨rfl, h1⟩
  rename_i h1
  rw [if_neg h1]
  have h1' : 128 ≤ h.toNat := by rw [at_zero] at h1; omega
  right
  refine ⟨h1', ?_⟩
  split at hs
  · rename_i h2
    rw [if_pos h2]
    rw [Bool.and_eq_true] at h2
    obtain ⟨k1, k2, k3⟩ := inn_form h2.2
    cases l with
    | nil => exact absurd k1 (by simp)
    | cons a t =>
      simp only [at_succ, at_zero] at k2 k3
      exact ⟨[a], t, rfl, rfl, fun x hx => by rw [List.mem_singleton.1 hx]; exact ⟨k2, k3⟩, by simp, fun _ => rfl⟩
  rename_i h2
  rw [if_neg h2]
  split at hs
  · exact absurd rfl hs
  rename_i h3
  rw [if_neg h3]
  simp only [Bool.or_eq_true, Bool.not_eq_true', not_or, Bool.not_eq_false] at h3
  obtain ⟨k1, k2, k3⟩ := inn_form h3.1
  obtain ⟨m1, m2, m3⟩ := inn_form h3.2
  cases l with
  | nil => exact absurd k1 (by simp)
  | cons a l =>
    cases l with
    | nil => exact absurd m1 (by simp)
    | cons b t =>
      simp only [at_succ, at_zero] at k2 k3
      simp only [at_succ, at_zero] at m2 m3
      split at hs
      · rename_i h4
        rw [if_pos h4]
        rw [at_zero, Bool.and_eq_true, decide_eq_true_iff, decide_eq_true_iff] at h4
        refine ⟨[a, b], t, rfl, rfl, fun x hx => ?_, by simp, fun e => ?_⟩
        · simp only [List.mem_cons, List.not_mem_nil, or_false] at hx
          rcases hx with rfl | rfl
          · exact ⟨by omega, by omega⟩
          · exact ⟨m2, m3⟩
        · rw [e] at h4; exact absurd h4.1 (by decide)
      · rename_i h4
        rw [if_neg h4]
        split at hs
        · rename_i h5
          rw [if_pos h5]
          rw [at_zero, Bool.and_eq_true, Bool.and_eq_true, decide_eq_true_iff, decide_eq_true_iff] at h5
          obtain ⟨n1, n2, n3⟩ := inn_form h5.2
          cases t with
          | nil => exact absurd n1 (by simp)
          | cons d t =>
            simp only [at_succ, at_zero] at n2 n3
            refine ⟨[a, b, d], t, rfl, rfl, fun x hx => ?_, by simp, fun e => ?_⟩
            · simp only [List.mem_cons, List.not_mem_nil, or_false] at hx
              rcases hx with rfl | rfl | rfl
              · exact ⟨by omega, by omega⟩
              · exact ⟨m2, m3⟩
              · exact ⟨n2, n3⟩
            · rw [e] at h5; exact absurd h5.1.1 (by decide)
        · exact absurd rfl hs
theorem cl_esc (q : Bool) (n : Nat) : ∀ l : List UInt8, l.length ≤ n → Cl l → Cl (esc q l) := by
  induction n with
  | zero =>
    intro l h _
    obtain rfl : l = [] := List.eq_nil_of_length_eq_zero (by omega)
    rw [esc_nil]; exact cl_nil
  | succ n ih =>
    intro l h hc
    cases l with
    | nil => rw [esc_nil]; exact cl_nil
    | cons a l =>
      have hne : (a :: l) ≠ [] := List.cons_ne_nil _ _
      have hr := hc.1
      rw [Ch.rL_sz _ hne] at hr
      by_cases hs : Ch.sz (a :: l) = 0
      · rw [if_pos hs] at hr; cases hr
      rw [if_neg hs] at hr
      have h0 : ∀ x ∈ a :: l, x ≠ 0 ∧ x ≠ 13 := fun x hx => ⟨fun e => hc.2.1 (by rwa [e] at hx), fun e => hc.2.2 (by rwa [e] at hx)⟩
      rw [List.length_cons] at h
      rcases sz_form hs with ⟨e1, e2⟩ | ⟨e1, cs, t, rfl, e2, e3, e4, e5⟩
      · rw [e1, List.drop_succ_cons, List.drop_zero] at hr
        have hl : Cl l := ⟨hr, fun e => hc.2.1 (List.mem_cons_of_mem _ e), fun e => hc.2.2 (List.mem_cons_of_mem _ e)⟩
        rw [esc_byte q (by rintro ⟨rfl, _⟩; exact absurd e2 (by decide))]
        exact cl_app (e1_low q e2 (h0 a List.mem_cons_self).1 (h0 a List.mem_cons_self).2) (ih l (by omega) hl)
      · rw [e2, List.drop_succ_cons, List.drop_left] at hr
        have hlt : t.length ≤ n := by rw [List.length_append] at h; omega
        have ht : Cl t := ⟨hr, fun e => hc.2.1 (List.mem_cons_of_mem _ (List.mem_append_right _ e)), fun e => hc.2.2 (List.mem_cons_of_mem _ (List.mem_append_right _ e))⟩
        by_cases hn : a = 194 ∧ (cs ++ t).head? = some 160
        · obtain ⟨rfl, hn2⟩ := hn
          have hl1 := e5 rfl
          match cs, hl1 with
          | [b], _ =>
            have hb : b = 160 := by simpa using hn2
            subst hb
            show Cl (esc q (194 :: 160 :: t))
            rw [esc_nbsp]
            exact cl_app (cl_plain (by unfold Ch.plain; decide)) (ih t hlt ht)
        · rw [esc_byte q hn, e1_high q e1, esc_high q cs t e3]
          obtain ⟨c, r, t', f1, f2, f3⟩ := Ch.sz_good _ hne hs
          have hcc : c = a :: cs := by
            have hlen : c.length = (a :: cs).length := by rw [← f3, e2]; rfl
            have : (a :: cs) ++ t = c ++ t' := f1
            exact (List.append_inj_left this.symm hlen)
          have hgood : Cl ((a :: cs) ++ esc q t) := by
            have ie := ih t hlt ht
            refine ⟨by rw [← hcc, Ch.rL_good f2]; exact ie.1, fun hx => ?_, fun hx => ?_⟩
            · rcases List.mem_append.1 hx with hx | hx
              · exact hc.2.1 (by rcases List.mem_cons.1 hx with e | e; exact e ▸ List.mem_cons_self; exact List.mem_cons_of_mem _ (List.mem_append_left _ e))
              · exact ie.2.1 hx
            · rcases List.mem_append.1 hx with hx | hx
              · exact hc.2.2 (by rcases List.mem_cons.1 hx with e | e; exact e ▸ List.mem_cons_self; exact List.mem_cons_of_mem _ (List.mem_append_left _ e))
              · exact ie.2.2 hx
          exact hgood

def RowCl (x : Ro) : Prop := (x.kind = 0 → Cl (L x.name) ∧ ∀ a ∈ x.attrs, Cl (L a.name) ∧ Cl (L a.value)) ∧ (x.kind ≠ 0 → Cl (L x.data))
theorem cl_attrs : ∀ l : List At, (∀ a ∈ l, Cl (L a.name) ∧ Cl (L a.value)) → Cl (l.flatMap wA)
  | [], _ => cl_nil
  | a :: r, h => by
    obtain ⟨h1, h2⟩ := h a List.mem_cons_self
    rw [List.flatMap_cons]
    refine cl_app ?_ (cl_attrs r fun b hb => h b (List.mem_cons_of_mem _ hb))
    unfold wA
    exact cl_app (cl_plain (by unfold Ch.plain; decide)) (cl_app h1 (cl_app (cl_plain (by unfold Ch.plain; decide)) (cl_app (cl_esc true _ _ (Nat.le_refl _) h2) (cl_plain (by unfold Ch.plain; decide)))))
theorem cl_node (raw : Bool) {x : Ro} (h : RowCl x) : Cl (node raw x) := by
  unfold node
  split
  · rename_i hk
    obtain ⟨h1, h2⟩ := h.1 hk
    unfold tagW
    exact cl_app (cl_app (cl_app (cl_plain (by unfold Ch.plain; decide)) h1) (cl_attrs _ h2)) (cl_plain (by unfold Ch.plain; decide))
  · rename_i hk
    have hd := h.2 hk
    split
    · split
      · exact hd
      · exact cl_esc false _ _ (Nat.le_refl _) hd
    · split
      · exact cl_app (cl_app (cl_plain (by unfold Ch.plain; decide)) hd) (cl_plain (by unfold Ch.plain; decide))
      · exact cl_nil
theorem cl_end {x : Ro} (h : RowCl x) (hh : holds x = true) : Cl (endW x) := by
  unfold endW
  exact cl_app (cl_app (cl_plain (by unfold Ch.plain; decide)) (h.1 (holds_kind hh).1).1) (cl_plain (by unfold Ch.plain; decide))
theorem cl_wr (n : Nat) : ∀ (l : List Ro) (raw : Bool), l.length ≤ n → (∀ x ∈ l, RowCl x) → Cl (wr raw l) := by
  induction n with
  | zero =>
    intro l raw h _
    obtain rfl : l = [] := List.eq_nil_of_length_eq_zero (by omega)
    rw [wr_nil]; exact cl_nil
  | succ n ih =>
    intro l raw h hc
    cases l with
    | nil => rw [wr_nil]; exact cl_nil
    | cons x r =>
      have hp := len_parts x r
      have hib := inn_beh x r
      rw [List.length_cons] at h
      rw [wr_cons]
      have hx := hc x List.mem_cons_self
      refine cl_app (cl_node raw hx) (cl_app ?_ (ih (beh x r) raw (by omega) fun y hy => hc y (List.mem_cons_of_mem _ (by rw [← hib]; exact List.mem_append_right _ hy))))
      split
      · rename_i hh
        exact cl_app (ih (inn x r) _ (by omega) fun y hy => hc y (List.mem_cons_of_mem _ (by rw [← hib]; exact List.mem_append_left _ hy))) (cl_end hx hh)
      · exact cl_nil
theorem len_toks (n : Nat) : ∀ l : List Ro, l.length ≤ n → (toks l).length ≤ 2 * l.length := by
  induction n with
  | zero =>
    intro l h
    obtain rfl : l = [] := List.eq_nil_of_length_eq_zero (by omega)
    rw [toks_nil]; exact Nat.le_refl _
  | succ n ih =>
    intro l h
    cases l with
    | nil => rw [toks_nil]; exact Nat.le_refl _
    | cons x r =>
      have hp := len_parts x r
      rw [List.length_cons] at h
      have h1 := ih (inn x r) (by omega)
      have h2 := ih (beh x r) (by omega)
      rw [toks_cons, List.length_cons, List.length_append, List.length_cons]
      split
      · rw [List.length_append]
        simp only [List.length_cons, List.length_nil]
        omega
      · simp only [List.length_nil]
        omega
end Go.Proofs.YtgjlfcamgkeibaaGreatDoor.Wm

namespace Go.Proofs.YtgjlfcamgkeibaaGreatDoor.Wm
set_option linter.unusedVariables false
set_option linter.unusedSimpArgs false
open Ba Fm Rm Nm Bm
open Ro (At Ro)
open Ch (rL)
open Bu (rdy)
open Tm (lead trail by1 pre Tk tx txt comm cend isEnd)
theorem good_of {h : UInt8} {cs t : List UInt8} (hs : Ch.sz (h :: (cs ++ t)) = cs.length + 1) : ∃ r, Ch.Good (h :: cs) r := by
  obtain ⟨c, r, t', f1, f2, f3⟩ := Ch.sz_good (h :: (cs ++ t)) (List.cons_ne_nil _ _) (by omega)
  have hlen : c.length = (h :: cs).length := by rw [← f3, hs]; rfl
  have : (h :: cs) ++ t = c ++ t' := f1
  exact ⟨r, (List.append_inj_left this hlen.symm) ▸ f2⟩
theorem right_cut (n : Nat) : ∀ a b : List UInt8, a.length ≤ n → rL (a ++ b) = true → (∀ c, b.head? = some c → c.toNat < 128) → rL a = true ∧ rL b = true := by
  induction n with
  | zero =>
    intro a b h hr _
    obtain rfl : a = [] := List.eq_nil_of_length_eq_zero (by omega)
    exact ⟨rfl, hr⟩
  | succ n ih =>
    intro a b h hr hb
    cases a with
    | nil => exact ⟨rfl, hr⟩
    | cons x a =>
      rw [List.length_cons] at h
      rw [List.cons_append, Ch.rL_sz _ (List.cons_ne_nil _ _)] at hr
      by_cases hs : Ch.sz (x :: (a ++ b)) = 0
      · rw [if_pos hs] at hr; cases hr
      rw [if_neg hs] at hr
      rcases sz_form hs with ⟨e1, e2⟩ | ⟨e1, cs, t, e0, e2, e3, e4, e5⟩
      · rw [e1, List.drop_succ_cons, List.drop_zero] at hr
        obtain ⟨h1, h2⟩ := ih a b (by omega) hr hb
        refine ⟨?_, h2⟩
        have := Ch.rL_good (Ch.good1 x e2) a
        rw [show [x] ++ a = x :: a from rfl] at this
        rw [this]; exact h1
      · rw [e0] at hr e2
        rw [e2, List.drop_succ_cons, List.drop_left] at hr
        obtain ⟨r, hg⟩ := good_of e2
        by_cases hl : cs.length ≤ a.length
        · have e6 : cs = a.take cs.length := by
            have := congrArg (List.take cs.length) e0
            rw [List.take_append_of_le_length hl, List.take_left] at this
            exact this.symm
          have e7 : t = a.drop cs.length ++ b := by
            have := congrArg (List.drop cs.length) e0
            rw [List.drop_append_of_le_length hl, List.drop_left] at this
            exact this.symm
          rw [e7] at hr
          obtain ⟨h1, h2⟩ := ih (a.drop cs.length) b (by rw [List.length_drop]; omega) hr hb
          refine ⟨?_, h2⟩
          have h3 := Ch.rL_good hg (a.drop cs.length)
          have h4 : x :: a = x :: cs ++ a.drop cs.length := by
            rw [List.cons_append]
            congr 1
            conv => lhs; rw [← List.take_append_drop cs.length a]
            rw [← e6]
          rw [h4, h3]; exact h1
        · exfalso
          cases b with
          | nil =>
            have := congrArg List.length e0
            rw [List.append_nil, List.length_append] at this
            omega
          | cons c b =>
            have h1 := hb c rfl
            have h2 : (cs ++ t)[a.length]? = some c := by
              rw [← e0, List.getElem?_append_right (Nat.le_refl _), Nat.sub_self]; rfl
            rw [List.getElem?_append_left (by omega)] at h2
            have := (e3 c (List.mem_of_getElem? h2)).1
            omega
theorem cl_cut {a b : List UInt8} (h : Cl (a ++ b)) (hb : ∀ c, b.head? = some c → c.toNat < 128) : Cl a ∧ Cl b := by
  obtain ⟨h1, h2⟩ := right_cut a.length a b (Nat.le_refl _) h.1 hb
  exact ⟨⟨h1, fun e => h.2.1 (List.mem_append_left _ e), fun e => h.2.2 (List.mem_append_left _ e)⟩, ⟨h2, fun e => h.2.1 (List.mem_append_right _ e), fun e => h.2.2 (List.mem_append_right _ e)⟩⟩
theorem cl_tail {c : UInt8} {r : List UInt8} (h : Cl (c :: r)) (hc : c.toNat < 128) : Cl r := by
  refine ⟨?_, fun e => h.2.1 (List.mem_cons_of_mem _ e), fun e => h.2.2 (List.mem_cons_of_mem _ e)⟩
  have := Ch.rL_good (Ch.good1 c hc) r
  rw [← this]
  exact h.1
theorem cl_drop {l : List UInt8} (h : Cl l) : ∀ n, (∀ c ∈ l.take n, c.toNat < 128) → Cl (l.drop n) := by
  intro n
  induction n generalizing l with
  | zero => intro _; rw [List.drop_zero]; exact h
  | succ n ih =>
    intro hc
    cases l with
    | nil => exact h
    | cons c r =>
      rw [List.drop_succ_cons]
      exact ih (cl_tail h (hc c (by simp))) fun d hd => hc d (by rw [List.take_succ_cons]; exact List.mem_cons_of_mem _ hd)
def Asc (p : List UInt8 → Bool) : Prop := ∀ l, p l = true → ∀ c, l.head? = some c → c.toNat < 128
theorem cl_lead {p : List UInt8 → Bool} (hp : Asc p) {l : List UInt8} (h : Cl l) : Cl (lead p l) ∧ Cl (trail p l) := by
  rw [← Tm.lead_trail p l] at h
  refine cl_cut h fun c hc => ?_
  rcases Tm.trail_cases p l with e | e
  · rw [e] at hc; cases hc
  · exact hp _ e c hc
theorem asc_by1 {q : UInt8 → Bool} (hq : ∀ c, q c = true → c.toNat < 128) : Asc (by1 q) := fun l h c hc => by
  cases l with
  | nil => cases hc
  | cons d r =>
    injection hc with hc
    subst hc
    exact hq _ h
theorem asc_pre {a : UInt8} {t : List UInt8} (ha : a.toNat < 128) : Asc (pre (a :: t)) := fun l h c hc => by
  cases l with
  | nil => cases hc
  | cons d r =>
    injection hc with hc
    subst hc
    rw [Tm.pre_cons, Bool.and_eq_true, decide_eq_true_iff] at h
    rw [h.1]; exact ha
theorem sp_asc {c : UInt8} (h : sp c = true) : c.toNat < 128 := by
  unfold sp at h
  simp only [Bool.or_eq_true, beq_iff_eq] at h
  rcases h with (((h | h) | h) | h) | h <;> (rw [h]; decide)
theorem ev_asc {c : UInt8} (h : Tm.ev c = true) : c.toNat < 128 := by
  unfold Tm.ev at h
  rw [Bool.or_eq_true, beq_iff_eq] at h
  rcases h with h | h
  · rw [h]; decide
  · exact sp_asc h
theorem en_asc {c : UInt8} (h : Tm.en c = true) : c.toNat < 128 := by
  unfold Tm.en at h
  rw [Bool.or_eq_true, beq_iff_eq] at h
  rcases h with h | h
  · rw [h]; decide
  · exact ev_asc h
theorem ea_asc {c : UInt8} (h : Tm.ea c = true) : c.toNat < 128 := by
  unfold Tm.ea at h
  rw [Bool.or_eq_true, beq_iff_eq] at h
  rcases h with h | h
  · rw [h]; decide
  · exact en_asc h

theorem low_asc {c : UInt8} (h : c.toNat < 128) (h0 : c ≠ 0) (h13 : c ≠ 13) : (low c).toNat < 128 ∧ low c ≠ 0 ∧ low c ≠ 13 := by
  unfold low
  split
  · rename_i hc
    rw [UInt8.le_iff_toNat_le, UInt8.le_iff_toNat_le] at hc
    have h1 : (65 : UInt8).toNat = 65 := rfl
    have h2 : (90 : UInt8).toNat = 90 := rfl
    have e : (c + 32).toNat = c.toNat + 32 := by
      rw [UInt8.toNat_add]
      have : (32 : UInt8).toNat = 32 := rfl
      omega
    refine ⟨by omega, fun h => ?_, fun h => ?_⟩
    · rw [h] at e; have : (0 : UInt8).toNat = 0 := rfl; omega
    · rw [h] at e; have : (13 : UInt8).toNat = 13 := rfl; omega
  · exact ⟨h, h0, h13⟩
theorem low_high {c : UInt8} (h : 128 ≤ c.toNat) : low c = c := by
  unfold low
  rw [if_neg]
  intro hc
  rw [UInt8.le_iff_toNat_le, UInt8.le_iff_toNat_le] at hc
  have h2 : (90 : UInt8).toNat = 90 := rfl
  omega
theorem cl_low (n : Nat) : ∀ l : List UInt8, l.length ≤ n → Cl l → Cl (lowL l) := by
  induction n with
  | zero =>
    intro l h hc
    obtain rfl : l = [] := List.eq_nil_of_length_eq_zero (by omega)
    exact hc
  | succ n ih =>
    intro l h hc
    cases l with
    | nil => exact hc
    | cons x l =>
      rw [List.length_cons] at h
      have hr := hc.1
      rw [Ch.rL_sz _ (List.cons_ne_nil _ _)] at hr
      by_cases hs : Ch.sz (x :: l) = 0
      · rw [if_pos hs] at hr; cases hr
      rw [if_neg hs] at hr
      have hx0 : x ≠ 0 := fun e => hc.2.1 (e ▸ List.mem_cons_self)
      have hx13 : x ≠ 13 := fun e => hc.2.2 (e ▸ List.mem_cons_self)
      rcases sz_form hs with ⟨e1, e2⟩ | ⟨e1, cs, t, rfl, e2, e3, e4, e5⟩
      · have hl := cl_tail hc e2
        show Cl (low x :: lowL l)
        exact cl_app (a := [low x]) (cl_plain fun y hy => by rw [List.mem_singleton.1 hy]; exact low_asc e2 hx0 hx13) (ih l (by omega) hl)
      · rw [e2, List.drop_succ_cons, List.drop_left] at hr
        have ht : Cl t := ⟨hr, fun e => hc.2.1 (List.mem_cons_of_mem _ (List.mem_append_right _ e)), fun e => hc.2.2 (List.mem_cons_of_mem _ (List.mem_append_right _ e))⟩
        have ie := ih t (by rw [List.length_append] at h; omega) ht
        obtain ⟨r, hg⟩ := good_of e2
        have hlow : lowL (x :: (cs ++ t)) = (x :: cs) ++ lowL t := by
          unfold lowL
          rw [List.map_cons, List.map_append, low_high e1, List.cons_append]
          congr 2
          exact (List.map_congr_left fun y hy => low_high (e3 y hy).1).trans (List.map_id _)
        rw [hlow]
        refine ⟨by rw [Ch.rL_good hg]; exact ie.1, fun e => ?_, fun e => ?_⟩
        · rcases List.mem_append.1 e with e | e
          · exact hc.2.1 (by rw [← List.cons_append]; exact List.mem_append_left _ e)
          · exact ie.2.1 e
        · rcases List.mem_append.1 e with e | e
          · exact hc.2.2 (by rw [← List.cons_append]; exact List.mem_append_left _ e)
          · exact ie.2.2 e

theorem nat_u8 {n : Nat} (h : n < 256) : (UInt8.ofNat n).toNat = n := by
  rw [UInt8.toNat_ofNat']
  exact Nat.mod_eq_of_lt h
theorem cl_good {c : List UInt8} {r : Nat} (h : Ch.Good c r) (h0 : (0 : UInt8) ∉ c) (h13 : (13 : UInt8) ∉ c) : Cl c := by
  refine ⟨?_, h0, h13⟩
  have := Ch.rL_good h []
  rw [List.append_nil] at this
  rw [this]; rfl
theorem not_small {c : List UInt8} {d : UInt8} (hd : d.toNat < 128) (h : ∀ x ∈ c, 128 ≤ x.toNat) : d ∉ c := fun e => by
  have := h d e
  omega
theorem cl_enc {n : Nat} (h1 : 1 ≤ n) (h2 : n ≤ 1114111) (h3 : n < 55296 ∨ 57344 ≤ n) (h4 : n ≠ 13) : Cl (enc n) := by
  unfold enc
  split
  · rename_i hn
    have e := nat_u8 (n := n) (by omega)
    refine cl_plain fun x hx => ?_
    rw [List.mem_singleton.1 hx]
    refine ⟨by omega, fun h => ?_, fun h => ?_⟩
    · rw [h] at e; have : (0 : UInt8).toNat = 0 := rfl; omega
    · rw [h] at e; have : (13 : UInt8).toNat = 13 := rfl; omega
  split
  · have ea := nat_u8 (n := 192 + n / 64) (by omega)
    have eb := nat_u8 (n := 128 + n % 64) (by omega)
    have hall : ∀ x ∈ [UInt8.ofNat (192 + n / 64), UInt8.ofNat (128 + n % 64)], 128 ≤ x.toNat := fun x hx => by
      simp only [List.mem_cons, List.not_mem_nil, or_false] at hx
      rcases hx with rfl | rfl <;> omega
    exact cl_good (Ch.good2 _ _ (by omega) (by omega) (by omega) (by omega)) (not_small (by decide) hall) (not_small (by decide) hall)
  split
  · have ea := nat_u8 (n := 224 + n / 4096) (by omega)
    have eb := nat_u8 (n := 128 + n / 64 % 64) (by omega)
    have ec := nat_u8 (n := 128 + n % 64) (by omega)
    have hall : ∀ x ∈ [UInt8.ofNat (224 + n / 4096), UInt8.ofNat (128 + n / 64 % 64), UInt8.ofNat (128 + n % 64)], 128 ≤ x.toNat := fun x hx => by
      simp only [List.mem_cons, List.not_mem_nil, or_false] at hx
      rcases hx with rfl | rfl | rfl <;> omega
    refine cl_good (Ch.good3 _ _ _ (by omega) (by omega) ?_ ?_ (by omega) (by omega)) (not_small (by decide) hall) (not_small (by decide) hall)
    · rw [ea, eb]; unfold Ch.low; split
      · omega
      · split <;> omega
    · rw [ea, eb]; unfold Ch.high; split
      · omega
      · split <;> omega
  · have ea := nat_u8 (n := 240 + n / 262144) (by omega)
    have eb := nat_u8 (n := 128 + n / 4096 % 64) (by omega)
    have ec := nat_u8 (n := 128 + n / 64 % 64) (by omega)
    have ed := nat_u8 (n := 128 + n % 64) (by omega)
    have hall : ∀ x ∈ [UInt8.ofNat (240 + n / 262144), UInt8.ofNat (128 + n / 4096 % 64), UInt8.ofNat (128 + n / 64 % 64), UInt8.ofNat (128 + n % 64)], 128 ≤ x.toNat := fun x hx => by
      simp only [List.mem_cons, List.not_mem_nil, or_false] at hx
      rcases hx with rfl | rfl | rfl | rfl <;> omega
    refine cl_good (Ch.good4 _ _ _ _ (by omega) (by omega) ?_ ?_ (by omega) (by omega) (by omega) (by omega)) (not_small (by decide) hall) (not_small (by decide) hall)
    · rw [ea, eb]; unfold Ch.low; split
      · omega
      · split <;> omega
    · rw [ea, eb]; unfold Ch.high; split
      · omega
      · split <;> omega
theorem cl_code (n : Int) : Cl (code n) := by
  unfold code
  cases hb : bad n with
  | true => rw [if_pos rfl]; exact cl_good Ch.F_good (by decide) (by decide)
  | false =>
    rw [if_neg (by simp)]
    split
    · exact cl_plain (by unfold Ch.plain; decide)
    · unfold bad at hb
      simp only [Bool.or_eq_false_iff, Bool.and_eq_false_iff, decide_eq_false_iff_not] at hb
      exact cl_enc (by omega) (by omega) (by omega) (by omega)
theorem cl_meant {b x : List UInt8} (h : meant b = some x) : Cl x := by
  unfold meant at h
  split at h
  · split at h
    · obtain ⟨_, n, rfl⟩ := numL_some h; exact cl_code n
    · obtain ⟨_, n, rfl⟩ := numL_some h; exact cl_code n
  · obtain ⟨n, _, rfl⟩ := look_some h; exact cl_code n
theorem cutAt_eq : ∀ {r b : List UInt8}, cutAt r = some b → ∃ t, r = b ++ 59 :: t
  | [], b, h => by cases h
  | c :: r, b, h => by
    unfold cutAt at h
    split at h
    · rename_i e
      injection h with h
      subst e
      rw [← h]; exact ⟨r, rfl⟩
    · cases hc : cutAt r with
      | none => rw [hc] at h; cases h
      | some x =>
        rw [hc] at h
        injection h with h
        obtain ⟨t, ht⟩ := cutAt_eq hc
        rw [← h, ht]; exact ⟨t, rfl⟩
theorem cl_dec (n : Nat) : ∀ l : List UInt8, l.length ≤ n → Cl l → Cl (dec l) := by
  induction n with
  | zero =>
    intro l h hc
    obtain rfl : l = [] := List.eq_nil_of_length_eq_zero (by omega)
    rw [dec_nil]; exact hc
  | succ n ih =>
    intro l h hc
    cases l with
    | nil => rw [dec_nil]; exact hc
    | cons x l =>
      rw [List.length_cons] at h
      cases hra : (if x = 38 then refAt l else none) with
      | some p =>
        obtain ⟨u, k⟩ := p
        split at hra
        · rename_i hx
          subst hx
          unfold refAt at hra
          cases hcut : cutAt l with
          | none => rw [hcut] at hra; cases hra
          | some b =>
            rw [hcut] at hra
            simp only at hra
            cases hm : meant b with
            | none => rw [hm] at hra; cases hra
            | some v =>
              rw [hm] at hra
              simp only [Option.map_some, Option.some.injEq, Prod.mk.injEq] at hra
              obtain ⟨rfl, rfl⟩ := hra
              obtain ⟨t, rfl⟩ := cutAt_eq hcut
              have hf : fst (38 :: (b ++ 59 :: t)) = (v, b.length + 2) := by
                rw [fst_cons, if_pos rfl]
                unfold refAt
                rw [hcut]
                simp only [hm, Option.map_some]
              rw [dec_step (List.cons_ne_nil _ _), hf]
              have hd : (38 :: (b ++ 59 :: t)).drop (b.length + 2) = t := by
                rw [show b.length + 2 = (b.length + 1) + 1 by omega, List.drop_succ_cons, List.drop_append, List.drop_of_length_le (by omega), List.nil_append, show b.length + 1 - b.length = 1 by omega]; rfl
              show Cl (v ++ dec ((38 :: (b ++ 59 :: t)).drop (b.length + 2)))
              rw [hd]
              have h59 : Cl (59 :: t) := (cl_cut (a := 38 :: b) (by rw [List.cons_append]; exact hc) (fun c hc => by
                injection hc with hc
                rw [← hc]; decide)).2
              refine cl_app (cl_meant hm) (ih t ?_ (cl_tail h59 (by decide)))
              rw [List.length_append, List.length_cons] at h
              omega
        · cases hra
      | none =>
        have hdx : dec (x :: l) = x :: dec l := by
          rw [dec_step (List.cons_ne_nil _ _), fst_cons]
          split
          · rename_i hx
            rw [if_pos hx] at hra
            rw [hra]; rfl
          · rfl
        have hr := hc.1
        rw [Ch.rL_sz _ (List.cons_ne_nil _ _)] at hr
        by_cases hs : Ch.sz (x :: l) = 0
        · rw [if_pos hs] at hr; cases hr
        rw [if_neg hs] at hr
        have hx0 : x ≠ 0 := fun e => hc.2.1 (e ▸ List.mem_cons_self)
        have hx13 : x ≠ 13 := fun e => hc.2.2 (e ▸ List.mem_cons_self)
        rw [hdx]
        rcases sz_form hs with ⟨e1, e2⟩ | ⟨e1, cs, t, rfl, e2, e3, e4, e5⟩
        · exact cl_app (a := [x]) (cl_plain fun y hy => by rw [List.mem_singleton.1 hy]; exact ⟨e2, hx0, hx13⟩) (ih l (by omega) (cl_tail hc e2))
        · rw [e2, List.drop_succ_cons, List.drop_left] at hr
          have ht : Cl t := ⟨hr, fun e => hc.2.1 (List.mem_cons_of_mem _ (List.mem_append_right _ e)), fun e => hc.2.2 (List.mem_cons_of_mem _ (List.mem_append_right _ e))⟩
          have ie := ih t (by rw [List.length_append] at h; omega) ht
          obtain ⟨r, hg⟩ := good_of e2
          rw [dec_plain cs t fun e => absurd (e3 38 e).1 (by decide), ← List.cons_append]
          refine ⟨by rw [Ch.rL_good hg]; exact ie.1, fun e => ?_, fun e => ?_⟩
          · rcases List.mem_append.1 e with e | e
            · exact hc.2.1 (by rw [← List.cons_append]; exact List.mem_append_left _ e)
            · exact ie.2.1 e
          · rcases List.mem_append.1 e with e | e
            · exact hc.2.2 (by rw [← List.cons_append]; exact List.mem_append_left _ e)
            · exact ie.2.2 e

def TkCl (t : Tk) : Prop := Cl (L t.name) ∧ (t.kind ≠ 4 → Cl (L t.data)) ∧ ∀ a ∈ t.attrs, Cl (L a.name) ∧ Cl (L a.value)
theorem cl_empty : Cl (L (B [])) := by rw [L_B]; exact cl_nil
theorem cl_B {l : List UInt8} (h : Cl l) : Cl (L (B l)) := by rw [L_B]; exact h
theorem tk_txt {d : List UInt8} (h : Cl d) : ∀ t ∈ txt d, TkCl t := fun t ht => by
  unfold txt at ht
  split at ht
  · cases ht
  · rw [List.mem_singleton.1 ht]
    exact ⟨cl_empty, fun _ => cl_B h, fun a ha => by cases ha⟩
theorem cl_trimS {l : List UInt8} (h : Cl l) : Cl (trimS l) := by
  induction l with
  | nil => exact h
  | cons c r ih =>
    unfold trimS
    rw [List.dropWhile_cons]
    split
    · rename_i hc
      exact ih (cl_tail h (sp_asc hc))
    · exact h
theorem cl_upTo {q : UInt8 → Bool} (hq : ∀ c, q c = true → c.toNat < 128) {l : List UInt8} (h : Cl l) : Cl (Tm.upTo q l) ∧ Cl (Tm.from_ q l) := cl_lead (asc_by1 hq) h
theorem cl_drop1 {q : UInt8 → Bool} (hq : ∀ c, q c = true → c.toNat < 128) {l : List UInt8} (h : Cl l) : Cl ((Tm.from_ q l).drop 1) := by
  have h1 := (cl_upTo hq h).2
  rcases Tm.trail_cases (by1 q) l with e | e
  · show Cl ((trail (by1 q) l).drop 1)
    rw [e]; exact cl_nil
  · obtain ⟨u, hu⟩ : ∃ u, Tm.from_ q l = u := ⟨_, rfl⟩
    rw [hu] at h1 ⊢
    have e : by1 q u = true := by rw [← hu]; exact e
    cases u with
    | nil => exact cl_nil
    | cons c r => exact cl_tail h1 (hq c e)
theorem is_asc {d : UInt8} (hd : d.toNat < 128) : ∀ c, Tm.is d c = true → c.toNat < 128 := fun c h => by
  unfold Tm.is at h
  rw [beq_iff_eq] at h
  rw [h]; exact hd
theorem gt_asc : ∀ c, Tm.gt c = true → c.toNat < 128 := fun c h => by
  unfold Tm.gt at h
  rw [beq_iff_eq] at h
  rw [h]; decide
theorem cl_head {l : List UInt8} {d : UInt8} (h : Cl l) (hl : l.head? = some d) (hd : d.toNat < 128) : Cl (l.drop 1) := by
  cases l with
  | nil => cases hl
  | cons c r =>
    injection hl with hl
    subst hl
    exact cl_tail h hd
theorem cl_quo {d : UInt8} (hd : d.toNat < 128) {l : List UInt8} (h : Cl l) : Cl (Tm.quo d l).1 ∧ Cl (Tm.quo d l).2 := by
  unfold Tm.quo
  exact ⟨(cl_upTo (is_asc hd) h).1, cl_drop1 (is_asc hd) h⟩
theorem cl_value {l : List UInt8} (h : Cl l) : Cl (Tm.value l).1 ∧ Cl (Tm.value l).2 := by
  unfold Tm.value
  split
  · rename_i e; exact cl_quo (by decide) (cl_head h e (by decide))
  · split
    · rename_i e; exact cl_quo (by decide) (cl_head h e (by decide))
    · exact cl_upTo (fun c => ev_asc) h
theorem cl_valued {l : List UInt8} (h : Cl l) : Cl (Tm.valued l).1 ∧ Cl (Tm.valued l).2 := by
  unfold Tm.valued
  split
  · rename_i e
    have h1 := cl_value (cl_trimS (cl_head h e (by decide)))
    exact ⟨cl_dec _ _ (Nat.le_refl _) h1.1, h1.2⟩
  · exact ⟨cl_nil, h⟩
theorem cl_attr {c : UInt8} {r : List UInt8} (h : Cl (c :: r)) : (Cl (L (Tm.attr c r).1.name) ∧ Cl (L (Tm.attr c r).1.value)) ∧ Cl (Tm.attr c r).2 := by
  have hs : c :: r = (c :: Tm.upTo Tm.ea r) ++ Tm.from_ Tm.ea r := by rw [List.cons_append, Tm.lead_trail]
  rw [hs] at h
  obtain ⟨h1, h2⟩ := cl_cut h fun d hd => by
    rcases Tm.trail_cases (by1 Tm.ea) r with e | e
    · have hd : (trail (by1 Tm.ea) r).head? = some d := hd
      rw [e] at hd; cases hd
    · exact asc_by1 (fun c => ea_asc) _ e d hd
  have h3 := cl_valued (cl_trimS h2)
  unfold Tm.attr
  exact ⟨⟨cl_B (cl_low _ _ (Nat.le_refl _) h1), cl_B h3.1⟩, h3.2⟩
theorem mem_put {l : List At} {a b : At} (h : b ∈ Tm.put l a) : b ∈ l ∨ b = a := by
  unfold Tm.put at h
  split at h
  · exact .inl h
  · rcases List.mem_append.1 h with h | h
    · exact .inl h
    · exact .inr (List.mem_singleton.1 h)
theorem cl_attrs' (n : Nat) : ∀ (self : Bool) (acc : List At) (l : List UInt8), l.length ≤ n → Cl l → (∀ a ∈ acc, Cl (L a.name) ∧ Cl (L a.value)) → ∀ bs sf r, Tm.attrs self acc l = some (bs, sf, r) → (∀ a ∈ bs, Cl (L a.name) ∧ Cl (L a.value)) ∧ Cl r := by
  induction n with
  | zero =>
    intro self acc l h hc ha bs sf r he
    obtain rfl : l = [] := List.eq_nil_of_length_eq_zero (by omega)
    rw [Tm.attrs_nil] at he; cases he
  | succ n ih =>
    intro self acc l h hc ha bs sf r he
    cases l with
    | nil => rw [Tm.attrs_nil] at he; cases he
    | cons c l =>
      rw [List.length_cons] at h
      by_cases h1 : c = 62
      · subst h1
        rw [Tm.attrs_end] at he
        injection he with he
        injection he with e1 e2
        injection e2 with e2 e3
        rw [← e1, ← e3]
        exact ⟨ha, cl_tail hc (by decide)⟩
      by_cases h2 : c = 47 ∨ sp c = true
      · rw [Tm.attrs_skip self acc l h1 h2] at he
        have hca : c.toNat < 128 := by
          rcases h2 with e | e
          · rw [e]; decide
          · exact sp_asc e
        exact ih _ acc l (by omega) (cl_tail hc hca) ha bs sf r he
      · rw [Tm.attrs_attr self acc l h1 h2] at he
        obtain ⟨g1, g2⟩ := cl_attr hc
        have hle := Tm.len_attr c l
        exact ih _ _ _ (by omega) g2 (fun a hm => by
          rcases mem_put hm with e | e
          · exact ha a e
          · rw [e]; exact g1) bs sf r he
theorem asc_end (n : List UInt8) : Asc (isEnd n) := fun l h c hc => by
  unfold isEnd at h
  rw [Bool.and_eq_true, Bool.and_eq_true] at h
  exact asc_pre (by decide) l h.1.1 c hc
theorem asc_cend : Asc cend := fun l h c hc => by
  unfold cend at h
  rw [Bool.or_eq_true] at h
  rcases h with h | h
  · exact asc_pre (by decide) l h c hc
  · exact asc_pre (by decide) l h c hc
theorem begun_60 {l : List UInt8} (h : Tm.begun l ≠ 0) : ∃ r, l = 60 :: r := by
  cases l with
  | nil => exact absurd rfl h
  | cons a r =>
    by_cases ha : a = 60
    · exact ⟨r, by rw [ha]⟩
    · exfalso
      apply h
      show (if a = 60 then _ else 0) = 0
      rw [if_neg ha]
theorem asc_bg : Asc Tm.bg := fun l h c hc => by
  unfold Tm.bg at h
  obtain ⟨r, rfl⟩ := begun_60 (of_decide_eq_true h)
  injection hc with hc
  rw [← hc]; decide
theorem begun_form (l : List UInt8) : (Tm.begun l = 2 → ∃ r, l = 60 :: 47 :: r) ∧ (Tm.begun l = 3 → ∃ r, l = 60 :: 47 :: 62 :: r) ∧ (Tm.begun l = 4 → ∃ r, l = 60 :: 33 :: 45 :: 45 :: r) := by
  by_cases h0 : Tm.begun l = 0
  · rw [h0]
    exact ⟨fun h => absurd h (by decide), fun h => absurd h (by decide), fun h => absurd h (by decide)⟩
  obtain ⟨r, rfl⟩ := begun_60 h0
  cases r with
  | nil => exact absurd rfl h0
  | cons c r =>
    have e : Tm.begun (60 :: c :: r) = if lr c = true then 1 else if c = 47 then Tm.slashed r else if c = 33 then Tm.marked r else if c = 63 then 6 else 0 := by
      have e0 : Tm.begun (60 :: c :: r) = if (60 : UInt8) = 60 then (if lr c = true then 1 else if c = 47 then Tm.slashed r else if c = 33 then Tm.marked r else if c = 63 then 6 else 0) else 0 := rfl
      rw [e0, if_pos rfl]
    rw [e]
    by_cases h1 : lr c = true
    · rw [if_pos h1]
      exact ⟨fun h => absurd h (by decide), fun h => absurd h (by decide), fun h => absurd h (by decide)⟩
    rw [if_neg h1]
    by_cases h2 : c = 47
    · rw [if_pos h2, h2]
      refine ⟨fun _ => ⟨r, rfl⟩, fun h => ?_, fun h => ?_⟩
      · cases r with
        | nil => exact absurd h (by decide)
        | cons d q =>
          have es : Tm.slashed (d :: q) = if lr d = true then 2 else if d = 62 then 3 else 6 := rfl
          rw [es] at h
          split at h
          · exact absurd h (by decide)
          · split at h
            · rename_i hd; exact ⟨q, by rw [hd]⟩
            · exact absurd h (by decide)
      · exfalso
        cases r with
        | nil => exact absurd h (by decide)
        | cons d q =>
          have es : Tm.slashed (d :: q) = if lr d = true then 2 else if d = 62 then 3 else 6 := rfl
          rw [es] at h
          split at h
          · exact absurd h (by decide)
          · split at h <;> exact absurd h (by decide)
    rw [if_neg h2]
    by_cases h3 : c = 33
    · rw [if_pos h3, h3]
      have hm : Tm.marked r = 4 ∨ Tm.marked r = 5 ∨ Tm.marked r = 6 := by
        unfold Tm.marked
        split
        · exact .inl rfl
        · split
          · exact .inr (.inl rfl)
          · exact .inr (.inr rfl)
      refine ⟨fun h => by omega, fun h => by omega, fun h => ?_⟩
      unfold Tm.marked at h
      split at h
      · rename_i hp
        match r, hp with
        | [], hp => exact absurd hp (by decide)
        | [a], hp => rw [Tm.pre_cons] at hp; exact absurd hp (by unfold pre; simp)
        | a :: b :: q, hp =>
          rw [Tm.pre_cons, Tm.pre_cons, Tm.pre_nil, Bool.and_true, Bool.and_eq_true, decide_eq_true_iff, decide_eq_true_iff] at hp
          exact ⟨q, by rw [hp.1, hp.2]⟩
      · split at h <;> exact absurd h (by decide)
    rw [if_neg h3]
    split
    · exact ⟨fun h => absurd h (by decide), fun h => absurd h (by decide), fun h => absurd h (by decide)⟩
    · exact ⟨fun h => absurd h (by decide), fun h => absurd h (by decide), fun h => absurd h (by decide)⟩

theorem cl_cont {n l : List UInt8} (h : Cl l) : (∀ t ∈ (Tm.cont n l).1, TkCl t) ∧ Cl (Tm.cont n l).2 := by
  obtain ⟨h1, h2⟩ := cl_lead (asc_end n) h
  unfold Tm.cont
  split
  · exact ⟨tk_txt h1, h2⟩
  · split
    · exact ⟨tk_txt (cl_dec _ _ (Nat.le_refl _) h1), h2⟩
    · exact ⟨fun t ht => (by cases ht), h⟩

theorem cl_comm {l : List UInt8} (h : Cl l) : Cl (comm l).1 ∧ Cl (comm l).2 := by
  unfold comm
  split
  · rename_i e
    refine ⟨cl_nil, ?_⟩
    cases l with
    | nil => exact cl_nil
    | cons a r =>
      rw [Tm.pre_cons, Tm.pre_nil, Bool.and_true, decide_eq_true_iff] at e
      exact cl_tail h (by rw [e]; decide)
  · split
    · rename_i _ e
      refine ⟨cl_nil, cl_drop h 2 ?_⟩
      match l, e with
      | [], _ => intro c hc; cases hc
      | [a], e => rw [Tm.pre_cons] at e; exact absurd e (by unfold pre; simp)
      | a :: b :: q, e =>
        rw [Tm.pre_cons, Tm.pre_cons, Tm.pre_nil, Bool.and_true, Bool.and_eq_true, decide_eq_true_iff, decide_eq_true_iff] at e
        intro c hc
        simp only [List.take_succ_cons, List.take_zero, List.mem_cons, List.not_mem_nil, or_false] at hc
        rcases hc with rfl | rfl
        · rw [e.1]; decide
        · rw [e.2]; decide
    · obtain ⟨h1, h2⟩ := cl_lead asc_cend h
      refine ⟨h1, ?_⟩
      rcases Tm.trail_cases cend l with e | e
      · rw [e, List.drop_nil]; exact cl_nil
      · refine cl_drop h2 _ ?_
        obtain ⟨u, hu⟩ : ∃ u, trail cend l = u := ⟨_, rfl⟩
        rw [hu] at e ⊢
        have hp : ∀ t : List UInt8, pre t u = true → (∀ c ∈ t, c.toNat < 128) → ∀ n, n ≤ t.length → ∀ c ∈ u.take n, c.toNat < 128 := fun t ht hc n hn c hcu => by
          unfold pre at ht
          have := of_decide_eq_true ht
          have h3 : u.take n = t.take n := by rw [← this, List.take_take, Nat.min_eq_left hn]
          rw [h3] at hcu
          exact hc c (List.mem_of_mem_take hcu)
        unfold cend at e
        rw [Bool.or_eq_true] at e
        by_cases h3 : pre [45, 45, 62] u = true
        · rw [if_pos h3]
          exact hp _ h3 (by decide) 3 (Nat.le_refl _)
        · rw [if_neg h3]
          rcases e with e | e
          · exact absurd e h3
          · exact hp _ e (by decide) 4 (Nat.le_refl _)
theorem cl_behind {l : List UInt8} (m : Nat) {q : UInt8 → Bool} (hq : ∀ c, q c = true → c.toNat < 128) (h : Cl l) : Cl ((Tm.from_ q (l.drop m)).drop 1) := by
  rcases Tm.trail_cases (by1 q) (l.drop m) with e | e
  · show Cl ((trail (by1 q) (l.drop m)).drop 1)
    rw [e]; exact cl_nil
  · have hs : l = (l.take m ++ Tm.upTo q (l.drop m)) ++ Tm.from_ q (l.drop m) := by rw [List.append_assoc, Tm.lead_trail, List.take_append_drop]
    rw [hs] at h
    obtain ⟨u, hu⟩ : ∃ u, Tm.from_ q (l.drop m) = u := ⟨_, rfl⟩
    have e : by1 q u = true := by rw [← hu]; exact e
    rw [hu] at h ⊢
    cases u with
    | nil => exact cl_nil
    | cons c r =>
      have hc : c.toNat < 128 := hq c e
      exact cl_tail (cl_cut h (fun d hd => by injection hd with hd; rw [← hd]; exact hc)).2 hc
theorem cl_start {l : List UInt8} (h : Cl l) : (∀ t ∈ (Tm.startTag l).1, TkCl t) ∧ Cl (Tm.startTag l).2 := by
  obtain ⟨h1, h2⟩ := cl_upTo (fun c => en_asc) h
  unfold Tm.startTag
  split
  · exact ⟨fun t ht => (by cases ht), cl_nil⟩
  · rename_i bs sf r e
    obtain ⟨g1, g2⟩ := cl_attrs' _ false [] _ (Nat.le_refl _) h2 (fun a ha => by cases ha) bs sf r e
    obtain ⟨k1, k2⟩ := cl_cont (n := lowL (Tm.upTo Tm.en l)) g2
    refine ⟨fun t ht => ?_, k2⟩
    rcases List.mem_cons.1 ht with e | e
    · rw [e]
      exact ⟨cl_B (cl_low _ _ (Nat.le_refl _) h1), fun _ => cl_empty, g1⟩
    · exact k1 t e
theorem cl_endTag {l : List UInt8} (h : Cl l) : (∀ t ∈ (Tm.endTag l).1, TkCl t) ∧ Cl (Tm.endTag l).2 := by
  obtain ⟨h1, h2⟩ := cl_upTo (fun c => en_asc) h
  unfold Tm.endTag
  split
  · exact ⟨fun t ht => (by cases ht), cl_nil⟩
  · rename_i bs sf r e
    obtain ⟨g1, g2⟩ := cl_attrs' _ false [] _ (Nat.le_refl _) h2 (fun a ha => by cases ha) bs sf r e
    refine ⟨fun t ht => ?_, g2⟩
    rw [List.mem_singleton.1 ht]
    exact ⟨cl_B (cl_low _ _ (Nat.le_refl _) h1), fun _ => cl_empty, fun a ha => by cases ha⟩
theorem cl_marks {l : List UInt8} (h : Cl l) : Cl (Tm.marks l) := by
  unfold Tm.marks
  split
  · rename_i e; exact cl_head h e (by decide)
  · split
    · rename_i e; exact cl_head h e (by decide)
    · exact h
theorem cl_mk {l : List UInt8} (h : Cl l) : (∀ t ∈ (Tm.mk l).1, TkCl t) ∧ Cl (Tm.mk l).2 := by
  obtain ⟨f2, f3, f4⟩ := begun_form l
  unfold Tm.mk
  split
  · rename_i e
    obtain ⟨r, rfl⟩ := begun_60 (l := l) (by omega)
    exact cl_start (cl_tail h (by decide))
  split
  · rename_i e
    obtain ⟨r, rfl⟩ := f2 e
    exact cl_endTag (cl_tail (cl_tail h (by decide)) (by decide))
  split
  · rename_i e
    obtain ⟨r, rfl⟩ := f3 e
    exact ⟨fun t ht => (by cases ht), cl_tail (cl_tail (cl_tail h (by decide)) (by decide)) (by decide)⟩
  split
  · rename_i e
    obtain ⟨r, rfl⟩ := f4 e
    have hr : Cl r := cl_tail (cl_tail (cl_tail (cl_tail h (by decide)) (by decide)) (by decide)) (by decide)
    obtain ⟨g1, g2⟩ := cl_comm hr
    refine ⟨fun t ht => ?_, g2⟩
    rw [List.mem_singleton.1 ht]
    exact ⟨cl_empty, fun _ => cl_B g1, fun a ha => by cases ha⟩
  split
  · refine ⟨fun t ht => ?_, ?_⟩
    · rw [List.mem_singleton.1 ht]
      exact ⟨cl_empty, fun hk => absurd rfl hk, fun a ha => by cases ha⟩
    · unfold Tm.closed
      exact cl_behind 9 gt_asc h
  split
  · rename_i e
    obtain ⟨r, rfl⟩ := begun_60 (l := l) (by omega)
    have hm := cl_marks (cl_tail h (by decide))
    unfold Tm.closed
    refine ⟨fun t ht => ?_, cl_drop1 gt_asc hm⟩
    rw [List.mem_singleton.1 ht]
    exact ⟨cl_empty, fun _ => cl_B (cl_upTo gt_asc hm).1, fun a ha => by cases ha⟩
  · exact ⟨fun t ht => (by cases ht), h⟩
theorem cl_turn {l : List UInt8} (h : Cl l) : (∀ t ∈ (Tm.turn l).1, TkCl t) ∧ Cl (Tm.turn l).2 := by
  obtain ⟨h1, h2⟩ := cl_lead asc_bg h
  obtain ⟨g1, g2⟩ := cl_mk h2
  unfold Tm.turn
  refine ⟨fun t ht => ?_, g2⟩
  rcases List.mem_append.1 ht with e | e
  · exact tk_txt (cl_dec _ _ (Nat.le_refl _) h1) t e
  · exact g1 t e
theorem cl_tokens (n : Nat) : ∀ l : List UInt8, l.length ≤ n → Cl l → ∀ t ∈ Tm.cut l, TkCl t := by
  induction n with
  | zero =>
    intro l h hc t ht
    obtain rfl : l = [] := List.eq_nil_of_length_eq_zero (by omega)
    rw [To.cut_nil] at ht; cases ht
  | succ n ih =>
    intro l h hc t ht
    by_cases hl : l = []
    · rw [hl, To.cut_nil] at ht; cases ht
    have hlt := To.len_turn hl
    obtain ⟨g1, g2⟩ := cl_turn hc
    rw [To.cut_step hl] at ht
    rcases List.mem_append.1 ht with e | e
    · exact g1 t e
    · exact ih _ (by omega) g2 t e
theorem cl_within {n l : List UInt8} (h : Cl l) : ∀ t ∈ Tm.within n l, TkCl t := fun t ht => by
  unfold Tm.within at ht
  obtain ⟨g1, g2⟩ := cl_cont (n := n) h
  rcases List.mem_append.1 ht with e | e
  · exact g1 t e
  · exact cl_tokens _ _ (Nat.le_refl _) g2 t e
theorem cl_ready (l : List UInt8) : Cl (rdy l) := ⟨Ch.ready_right l, Ch.no0_ready l, Ch.no13 _ false⟩

theorem row_mono {a b : List Ro} (h : ∀ x ∈ a, RowCl x) (hb : ∀ x ∈ b, RowCl x) : ∀ x ∈ a ++ b, RowCl x := fun x hx => by
  rcases List.mem_append.1 hx with e | e
  · exact h x e
  · exact hb x e
theorem row_one {a : List Ro} {y : Ro} (h : ∀ x ∈ a, RowCl x) (hy : RowCl y) : ∀ x ∈ a ++ [y], RowCl x := row_mono h fun x hx => by rw [List.mem_singleton.1 hx]; exact hy
theorem mem_once {l : List At} {a : At} (h : a ∈ once l) : a ∈ l := by
  have : ∀ (l acc : List At), a ∈ l.foldl Tm.put acc → a ∈ acc ∨ a ∈ l := fun l => by
    induction l with
    | nil => intro acc h; exact .inl h
    | cons b r ih =>
      intro acc h
      rcases ih _ h with e | e
      · rcases mem_put e with e | e
        · exact .inl e
        · exact .inr (e ▸ List.mem_cons_self)
      · exact .inr (List.mem_cons_of_mem _ e)
  rcases this l [] h with e | e
  · cases e
  · exact e
theorem cl_step {st : St} {t : Tk} (ht : TkCl t) (h : ∀ x ∈ st.out, RowCl x) : ∀ x ∈ (stepB st t).out, RowCl x := by
  obtain ⟨t1, t2, t3⟩ := ht
  unfold stepB
  split
  · rename_i hk
    have hd := t2 (by omega)
    split
    · exact h
    · have hnew : ∀ d : Int, RowCl ⟨d, 1, ⟨#[]⟩, t.data, []⟩ := fun d => ⟨fun e => absurd e (show ¬ (1 : Int) = 0 by decide), fun _ => hd⟩
      show ∀ x ∈ addText st.out st.stk.length t.data, RowCl x
      unfold addText
      split
      · rename_i y hy
        split
        · have hym := h y (List.mem_of_getLast? hy)
          rename_i hyk
          exact row_one (fun x hx => h x (List.dropLast_subset _ hx)) ⟨fun e => absurd hyk.1 (by have e : y.kind = 0 := e; omega), fun _ => by
            show Cl (L (y.data ++ t.data))
            rw [L_append]
            exact cl_app (hym.2 (by omega)) hd⟩
        · exact row_one h (hnew _)
      · exact row_one h (hnew _)
  split
  · rename_i hk
    exact row_one h ⟨fun e => absurd e (show ¬ (2 : Int) = 0 by decide), fun _ => t2 (by omega)⟩
  split
  · split
    · exact h
    · exact row_one h ⟨fun _ => ⟨t1, fun a ha => t3 a (mem_once ha)⟩, fun e => absurd rfl e⟩
  split
  · split
    · exact h
    · split
      · exact h
      · split
        · exact row_one h ⟨fun _ => ⟨cl_plain (show Ch.plain (L n_p) by unfold Ch.plain; decide), fun a ha => by cases ha⟩, fun e => absurd rfl e⟩
        · exact h
  · exact h
theorem cl_tree : ∀ {T : List Tk} {st : St} {o : List Ro}, (∀ t ∈ T, TkCl t) → (∀ x ∈ st.out, RowCl x) → treeB st T = some o → ∀ x ∈ o, RowCl x
  | [], st, o, _, h, he => by
    injection he with he
    rw [← he]; exact h
  | t :: r, st, o, ht, h, he => by
    rw [tree_cons'] at he
    split at he
    · cases he
    · exact cl_tree (fun u hu => ht u (List.mem_cons_of_mem _ hu)) (cl_step (ht t List.mem_cons_self) h) he

end Go.Proofs.YtgjlfcamgkeibaaGreatDoor.Wm

namespace Go.Proofs.YtgjlfcamgkeibaaGreatDoor.Wm
set_option linter.unusedVariables false
set_option linter.unusedSimpArgs false
open Ba Fm Rm Nm Bm
open Ro (At Ro)
open Bu (rdy)
open Tm (lead trail by1 pre Tk tx txt comm cend isEnd EndOf nmOk asOk softOr rawB softB bg mk cut cont attrs from_ upTo en)
inductive Sof : List Tk → Prop
  | nil : Sof []
  | text (d : List UInt8) (r : List Tk) : d ≠ [] → Sof r → Sof (tx d :: r)
  | note (d : List UInt8) (r : List Tk) : (∀ x, comm (d ++ ([45, 45, 62] ++ x)) = (d, x)) → Sof r → Sof (⟨3, B [], B d, [], false⟩ :: r)
  | skip (d : List UInt8) (r : List Tk) : Sof r → Sof (⟨4, B [], B d, [], false⟩ :: r)
  | end_ (n : List UInt8) (r : List Tk) : nmOk n → Sof r → Sof (⟨2, B n, B [], [], false⟩ :: r)
  | start (n : List UInt8) (l : List At) (sf : Bool) (r : List Tk) : nmOk n → asOk l → softOr n = false → Sof r → Sof (⟨1, B n, B [], l, sf⟩ :: r)
  | none_ (n : List UInt8) (l : List At) (sf : Bool) (r : List Tk) : nmOk n → asOk l → softOr n = true → EndOf n r → Sof r → Sof (⟨1, B n, B [], l, sf⟩ :: r)
  | one (n : List UInt8) (l : List At) (sf : Bool) (d : List UInt8) (r : List Tk) : nmOk n → asOk l → softOr n = true → d ≠ [] → (rawB n = true → lead (isEnd n) d = d) → EndOf n r → Sof r → Sof (⟨1, B n, B [], l, sf⟩ :: tx d :: r)
theorem lead_self (n l : List UInt8) : lead (isEnd n) (lead (isEnd n) l) = lead (isEnd n) l := by
  have := (Tm.lead_to (p := isEnd n) (s := lead (isEnd n) l) (r := []) (fun q hq hs => by
    rw [List.append_nil]
    by_cases hl : 2 + n.length < q.length
    · have := Tm.lead_not (p := isEnd n) hq hs
      rwa [Tm.isEnd_far hl] at this
    · exact Tm.isEnd_near (by omega)) (.inl rfl)).1
  rwa [List.append_nil] at this
theorem sof_txt {d : List UInt8} {r : List Tk} (h : Sof r) : Sof (txt d ++ r) := by
  unfold txt
  split
  · exact h
  · rename_i hd
    exact .text d r hd h
theorem sof_start {nm : List UInt8} {bs : List At} {sf : Bool} {r : List UInt8} (hnm : nmOk nm) (has : asOk bs) (IH : Sof (cut (cont nm r).2)) : Sof (⟨1, B nm, B [], bs, sf⟩ :: ((cont nm r).1 ++ cut (cont nm r).2)) := by
  cases hso : softOr nm with
  | false =>
    rw [Tm.cont_n hso] at IH ⊢
    exact .start nm bs sf _ hnm has hso IH
  | true =>
    have hR : EndOf nm (cut (trail (isEnd nm) r)) := by
      rcases Tm.trail_cases (isEnd nm) r with e | e
      · rw [e, To.cut_nil]; exact .inl rfl
      · exact Tm.end_cut hnm e
    cases hrb : rawB nm with
    | true =>
      rw [Tm.cont_r hrb] at IH ⊢
      show Sof (⟨1, B nm, B [], bs, sf⟩ :: (txt (lead (isEnd nm) r) ++ cut (trail (isEnd nm) r)))
      by_cases hd : lead (isEnd nm) r = []
      · rw [hd]; exact .none_ nm bs sf _ hnm has hso hR IH
      · rw [Tm.txt_some hd]
        exact .one nm bs sf _ _ hnm has hso hd (fun _ => lead_self nm r) hR IH
    | false =>
      have hsb : softB nm = true := by
        unfold softOr at hso
        rwa [hrb, Bool.false_or] at hso
      rw [Tm.cont_s hrb hsb] at IH ⊢
      show Sof (⟨1, B nm, B [], bs, sf⟩ :: (txt (dec (lead (isEnd nm) r)) ++ cut (trail (isEnd nm) r)))
      by_cases hd : dec (lead (isEnd nm) r) = []
      · rw [hd]; exact .none_ nm bs sf _ hnm has hso hR IH
      · rw [Tm.txt_some hd]
        exact .one nm bs sf _ _ hnm has hso hd (fun e => by rw [hrb] at e; cases e) hR IH
theorem sof_all (l : List UInt8) : Sof (cut l) := by
  induction hn : l.length using Nat.strongRecOn generalizing l with
  | ind n ih =>
    subst hn
    by_cases hl : l = []
    · rw [hl, To.cut_nil]; exact .nil
    have hlt := To.len_turn hl
    rw [To.cut_step hl]
    show Sof ((txt (dec (lead bg l)) ++ (mk (trail bg l)).1) ++ cut (mk (trail bg l)).2)
    rw [List.append_assoc]
    have hlt : (mk (trail bg l)).2.length < l.length := hlt
    apply sof_txt
    obtain ⟨b, hb⟩ : ∃ b, trail bg l = b := ⟨_, rfl⟩
    rw [hb] at hlt ⊢
    have IH := ih _ hlt _ rfl
    by_cases h1 : Tm.begun b = 1
    · rw [To.mk_1 h1] at hlt IH ⊢
      have hlet := Tm.begun_letter.1 h1
      cases ha : attrs false [] (from_ en (b.drop 1)) with
      | none =>
        rw [(To.start_no ha).1]
        show Sof ([] ++ cut [])
        rw [To.cut_nil]; exact .nil
      | some x =>
        obtain ⟨bs, sf, r⟩ := x
        rw [(To.start_yes ha).1] at hlt IH ⊢
        exact sof_start (Tm.nmOk_cut hlet) (Tm.asOk_cut _ _ _ _ _ _ Tm.asOk_nil ha) IH
    by_cases h2 : Tm.begun b = 2
    · rw [To.mk_2 h2] at hlt IH ⊢
      have hlet := Tm.begun_letter.2 h2
      cases ha : attrs false [] (from_ en (b.drop 2)) with
      | none =>
        rw [(To.start_no ha).2]
        show Sof ([] ++ cut [])
        rw [To.cut_nil]; exact .nil
      | some x =>
        obtain ⟨bs, sf, r⟩ := x
        rw [(To.start_yes ha).2] at IH ⊢
        exact .end_ _ _ (Tm.nmOk_cut hlet) IH
    by_cases h3 : Tm.begun b = 3
    · rw [To.mk_3 h3] at IH ⊢; exact IH
    by_cases h4 : Tm.begun b = 4
    · rw [To.mk_4 h4] at IH ⊢
      exact .note _ _ (fun x => Tm.comm_again _ x) IH
    by_cases h5 : Tm.begun b = 5
    · rw [To.mk_5 h5] at IH ⊢
      exact .skip _ _ IH
    by_cases h6 : Tm.begun b = 6
    · rw [To.mk_6 h6] at IH ⊢
      exact .note _ _ (fun x => Tm.comm_free (Tm.not_gt _) x) IH
    · rw [To.mk_0 h1 h2 h3 h4 h5 h6] at hlt IH ⊢
      exact IH

def sofRow (p : List ByteArray) (x : Ro) : Prop := ∀ n, 0 < x.depth → p[x.depth.toNat - 1]? = some n → softOr (L n) = true → x.kind = 1 ∧ (rawB (L n) = true → lead (isEnd (L n)) (L x.data) = L x.data)
def sofFrom (p : List ByteArray) : List Ro → Prop
  | [] => True
  | x :: r => sofRow p x ∧ sofFrom (pathStep p x) r
theorem sof_snoc : ∀ {p : List ByteArray} {l : List Ro} {x : Ro}, sofFrom p l → sofRow (pathFrom p l) x → sofFrom p (l ++ [x])
  | p, [], x, _, h => ⟨h, trivial⟩
  | p, y :: l, x, h, hx => ⟨h.1, sof_snoc h.2 hx⟩
theorem sof_init : ∀ {p : List ByteArray} {l : List Ro} {x : Ro}, sofFrom p (l ++ [x]) → sofFrom p l ∧ sofRow (pathFrom p l) x
  | p, [], x, h => ⟨trivial, h.1⟩
  | p, y :: l, x, h => by
    obtain ⟨h1, h2⟩ := sof_init (l := l) h.2
    exact ⟨⟨h.1, h1⟩, h2⟩
theorem sof_append : ∀ {p : List ByteArray} {a b : List Ro}, sofFrom p (a ++ b) → sofFrom p a ∧ sofFrom (pathFrom p a) b
  | p, [], b, h => ⟨trivial, h⟩
  | p, y :: a, b, h => by
    obtain ⟨h1, h2⟩ := sof_append (a := a) h.2
    exact ⟨⟨h.1, h1⟩, h2⟩
theorem good_append : ∀ {p : List ByteArray} {a b : List Ro}, goodFrom p (a ++ b) → goodFrom p a ∧ goodFrom (pathFrom p a) b
  | p, [], b, h => ⟨trivial, h⟩
  | p, y :: a, b, h => by
    obtain ⟨h1, h2⟩ := good_append (a := a) h.2
    exact ⟨⟨h.1, h1⟩, h2⟩
def rowOk (x : Ro) : Prop := (x.kind = 0 → nmOk (L x.name) ∧ asOk x.attrs) ∧ (x.kind = 2 → ∀ t, comm (L x.data ++ ([45, 45, 62] ++ t)) = (L x.data, t))

theorem free_row {p r : List ByteArray} {x : Ro} (ht : p.take r.length = r.reverse) (hd : x.depth = (r.length : Int)) (hf : ∀ n ∈ r, softOr (L n) = false) : sofRow p x := fun n h0 hn hs => by
  have hto : x.depth.toNat = r.length := by omega
  rw [hto] at hn
  have h1 : (p.take r.length)[r.length - 1]? = some n := by rw [List.getElem?_take, if_pos (by omega)]; exact hn
  rw [ht] at h1
  have := hf n (List.mem_reverse.1 (List.mem_of_getElem? h1))
  rw [hs] at this; cases this
theorem soft_facts {n : List UInt8} (h : softOr n = true) : noName (B n) = false ∧ isIn (B n) voidL = false := by
  have hall : ∀ x ∈ rawL ++ softL, noName x = false ∧ isIn x voidL = false := by decide
  refine hall _ ?_
  unfold softOr rawB softB at h
  rw [Bool.or_eq_true] at h
  rcases h with h | h
  · exact List.mem_append_left _ (isIn_of h)
  · exact List.mem_append_right _ (isIn_of h)
theorem once_ok {l : List At} (h : asOk l) : asOk (once l) := by rw [once_same h]; exact h
theorem p_ok : nmOk (L n_p) := Tm.nm_right (by decide)

structure Bt (st : St) : Prop where
  inv : Inv st
  sof : sofFrom [] st.out
  rows : ∀ x ∈ st.out, rowOk x
theorem Bt.row {st : St} (h : Bt st) {r : List ByteArray} (hr : r <:+ st.stk) (hf : ∀ n ∈ st.stk, softOr (L n) = false) (x : Ro) (hd : x.depth = (r.length : Int)) (hx : rowOk x) : sofFrom [] (st.out ++ [x]) ∧ ∀ y ∈ st.out ++ [x], rowOk y :=
  ⟨sof_snoc h.sof (free_row (take_suffix h.inv.eq hr) hd fun n hn => hf n (hr.subset hn)), fun y hy => by
    rcases List.mem_append.1 hy with e | e
    · exact h.rows y e
    · rw [List.mem_singleton.1 e]; exact hx⟩
theorem text_ok (d : Int) (t : ByteArray) : rowOk ⟨d, 1, ⟨#[]⟩, t, []⟩ := ⟨fun e => absurd e (show ¬ (1 : Int) = 0 by decide), fun e => absurd e (show ¬ (1 : Int) = 2 by decide)⟩
theorem Bt.text {st : St} (h : Bt st) (hf : ∀ n ∈ st.stk, softOr (L n) = false) (t : ByteArray) : sofFrom [] (addText st.out st.stk.length t) ∧ ∀ y ∈ addText st.out st.stk.length t, rowOk y := by
  have hnew := h.row (List.suffix_refl _) hf ⟨st.stk.length, 1, ⟨#[]⟩, t, []⟩ rfl (text_ok _ _)
  unfold addText
  split
  · rename_i y hy
    split
    · rename_i hyk
      have he := Bm.last_snoc hy
      have hs := h.sof
      rw [he] at hs
      obtain ⟨s1, s2⟩ := sof_init hs
      have hi := h.inv.eq
      have hp : pathFrom [] st.out = pathStep (pathFrom [] st.out.dropLast) y := by
        conv => lhs; rw [he]
        exact pathFrom_snoc _ _ _
      refine ⟨sof_snoc s1 (free_row (r := st.stk) ?_ hyk.2 hf), fun z hz => ?_⟩
      · rw [hp] at hi
        unfold pathStep at hi
        rw [if_neg (by omega), List.append_nil, List.take_take, show y.depth.toNat = st.stk.length by omega, Nat.min_self] at hi
        exact hi
      · rcases List.mem_append.1 hz with e | e
        · exact h.rows z (List.dropLast_subset _ e)
        · rw [List.mem_singleton.1 e]
          exact ⟨fun e => absurd e (by show ¬ y.kind = 0; omega), fun e => absurd e (by show ¬ y.kind = 2; omega)⟩
    · exact hnew
  · exact hnew
theorem not_end {n : List UInt8} {t : Tk} {r : List Tk} (hk : t.kind ≠ 2) : ¬ EndOf n (t :: r) := fun h => by
  rcases h with h | ⟨q, h⟩
  · cases h
  · injection h with h _
    rw [h] at hk
    exact hk rfl
def Mode (s : List ByteArray) (T : List Tk) : Prop := (∀ n ∈ s, softOr (L n) = false) ∨ ∃ n q, s = n :: q ∧ (∀ m ∈ q, softOr (L m) = false) ∧ softOr (L n) = true ∧ EndOf (L n) T
theorem Mode.free {s : List ByteArray} {t : Tk} {r : List Tk} (h : Mode s (t :: r)) (hk : t.kind ≠ 2) : ∀ n ∈ s, softOr (L n) = false := by
  rcases h with h | ⟨n, q, _, _, _, he⟩
  · exact h
  · exact absurd he (not_end hk)
theorem sof_build {T : List Tk} (hS : Sof T) : ∀ {st : St} {o : List Ro}, Bt st → Mode st.stk T → treeB st T = some o → sofFrom [] o ∧ ∀ x ∈ o, rowOk x := by
  induction hS with
  | nil =>
    intro st o hb _ ht
    injection ht with ht
    rw [← ht]; exact ⟨hb.sof, hb.rows⟩
  | text d r hd hr ih =>
    intro st o hb hm ht
    have hf := hm.free (show (0 : Int) ≠ 2 by decide)
    rw [tree_cons'] at ht
    split at ht
    · cases ht
    have hi := hb.inv.step (tx d)
    have hstep : stepB st (tx d) = ⟨st.stk, addText st.out st.stk.length (B d)⟩ := by
      unfold stepB
      rw [if_pos (show (tx d).kind = 0 from rfl), if_neg (show ¬ (tx d).data = ⟨#[]⟩ from fun e => hd (by
        have e : B d = ⟨#[]⟩ := e
        rw [← L_B d, e]))]
      rfl
    rw [hstep] at hi ht
    obtain ⟨h1, h2⟩ := hb.text hf (B d)
    exact ih ⟨hi, h1, h2⟩ (.inl hf) ht
  | note d r hc hr ih =>
    intro st o hb hm ht
    have hf := hm.free (show (3 : Int) ≠ 2 by decide)
    rw [tree_cons'] at ht
    split at ht
    · cases ht
    have hi := hb.inv.step ⟨3, B [], B d, [], false⟩
    have hstep : stepB st ⟨3, B [], B d, [], false⟩ = ⟨st.stk, st.out ++ [⟨st.stk.length, 2, ⟨#[]⟩, B d, []⟩]⟩ := rfl
    rw [hstep] at hi ht
    obtain ⟨h1, h2⟩ := hb.row (List.suffix_refl _) hf ⟨st.stk.length, 2, ⟨#[]⟩, B d, []⟩ rfl ⟨fun e => absurd e (show ¬ (2 : Int) = 0 by decide), fun _ t => by
      show comm (L (B d) ++ _) = (L (B d), t)
      rw [L_B]; exact hc t⟩
    exact ih ⟨hi, h1, h2⟩ (.inl hf) ht
  | skip d r hr ih =>
    intro st o hb hm ht
    have hf := hm.free (show (4 : Int) ≠ 2 by decide)
    rw [tree_cons'] at ht
    split at ht
    · cases ht
    have hstep : stepB st ⟨4, B [], B d, [], false⟩ = st := rfl
    rw [hstep] at ht
    exact ih hb (.inl hf) ht
  | end_ n r hn hr ih =>
    intro st o hb hm ht
    rw [tree_cons'] at ht
    split at ht
    · cases ht
    have hi := hb.inv.step ⟨2, B n, B [], [], false⟩
    rcases hm with hf | ⟨m, q, hs, hq, hsm, he⟩
    · have hcases : (stepB st ⟨2, B n, B [], [], false⟩ = st) ∨ (∃ s', s' <:+ st.stk ∧ stepB st ⟨2, B n, B [], [], false⟩ = ⟨s', st.out⟩) ∨ stepB st ⟨2, B n, B [], [], false⟩ = ⟨st.stk, st.out ++ [⟨st.stk.length, 0, n_p, ⟨#[]⟩, []⟩]⟩ := by
        unfold stepB
        rw [if_neg (show ¬ (2 : Int) = 0 by decide), if_neg (show ¬ (2 : Int) = 3 by decide), if_neg (show ¬ (2 : Int) = 1 by decide), if_pos rfl]
        split
        · exact .inl rfl
        · split
          · rename_i s' hs'
            exact .inr (.inl ⟨s', findS_suffix hs', rfl⟩)
          · split
            · exact .inr (.inr rfl)
            · exact .inl rfl
      rcases hcases with e | ⟨s', hs', e⟩ | e
      · rw [e] at ht
        exact ih hb (.inl hf) ht
      · rw [e] at hi ht
        exact ih ⟨hi, hb.sof, hb.rows⟩ (.inl fun n hn => hf n (hs'.subset hn)) ht
      · rw [e] at hi ht
        obtain ⟨h1, h2⟩ := hb.row (List.suffix_refl _) hf ⟨st.stk.length, 0, n_p, ⟨#[]⟩, []⟩ rfl ⟨fun _ => ⟨p_ok, Tm.asOk_nil⟩, fun e => absurd e (show ¬ (0 : Int) = 2 by decide)⟩
        exact ih ⟨hi, h1, h2⟩ (.inl hf) ht
    · have hnm : B n = m := by
        rcases he with he | ⟨u, he⟩
        · cases he
        · injection he with he _
          have := congrArg Tk.name he
          have : B n = B (L m) := this
          rw [this, B_L]
      have hsf := soft_facts hsm
      rw [B_L] at hsf
      have hstep : stepB st ⟨2, B n, B [], [], false⟩ = ⟨q, st.out⟩ := step_k2 rfl (by rw [hnm]; exact hsf.1) (by rw [hnm]; exact hsf.2) (by rw [hs, hnm]; exact findS_hit q (isIn_yes List.mem_cons_self))
      rw [hstep] at hi ht
      exact ih ⟨hi, hb.sof, hb.rows⟩ (.inl hq) ht
  | start n l sf r hn ha hso hr ih =>
    intro st o hb hm ht
    have hf := hm.free (show (1 : Int) ≠ 2 by decide)
    rw [tree_cons'] at ht
    split at ht
    · cases ht
    have hi := hb.inv.step ⟨1, B n, B [], l, sf⟩
    cases hno : noName (B n) with
    | true =>
      have hstep : stepB st ⟨1, B n, B [], l, sf⟩ = st := by
        unfold stepB
        rw [if_neg (show ¬ (1 : Int) = 0 by decide), if_neg (show ¬ (1 : Int) = 3 by decide), if_pos rfl, if_pos hno]
      rw [hstep] at ht
      exact ih hb (.inl hf) ht
    | false =>
      have hstep := step_k1 (st := st) (t := ⟨1, B n, B [], l, sf⟩) rfl hno
      rw [hstep] at hi ht
      have hsx := openedS_suffix (B n) st.stk
      obtain ⟨h1, h2⟩ := hb.row hsx hf ⟨(openedS (B n) st.stk).length, 0, B n, ⟨#[]⟩, once l⟩ rfl ⟨fun _ => ⟨by show nmOk (L (B n)); rw [L_B]; exact hn, once_ok ha⟩, fun e => absurd e (show ¬ (0 : Int) = 2 by decide)⟩
      refine ih ⟨hi, h1, h2⟩ (.inl fun m hm => ?_) ht
      have hm : m ∈ (if isIn (B n) voidL = true then openedS (B n) st.stk else B n :: openedS (B n) st.stk) := hm
      split at hm
      · exact hf m (hsx.subset hm)
      · rcases List.mem_cons.1 hm with e | e
        · rw [e, L_B]; exact hso
        · exact hf m (hsx.subset e)
  | none_ n l sf r hn ha hso hE hr ih =>
    intro st o hb hm ht
    have hf := hm.free (show (1 : Int) ≠ 2 by decide)
    rw [tree_cons'] at ht
    split at ht
    · cases ht
    have hi := hb.inv.step ⟨1, B n, B [], l, sf⟩
    obtain ⟨f1, f2⟩ := soft_facts hso
    have hstep := step_k1 (st := st) (t := ⟨1, B n, B [], l, sf⟩) rfl f1
    rw [if_neg (show ¬ isIn (B n) voidL = true by rw [f2]; simp)] at hstep
    rw [hstep] at hi ht
    have hsx := openedS_suffix (B n) st.stk
    obtain ⟨h1, h2⟩ := hb.row hsx hf ⟨(openedS (B n) st.stk).length, 0, B n, ⟨#[]⟩, once l⟩ rfl ⟨fun _ => ⟨by show nmOk (L (B n)); rw [L_B]; exact hn, once_ok ha⟩, fun e => absurd e (show ¬ (0 : Int) = 2 by decide)⟩
    exact ih ⟨hi, h1, h2⟩ (.inr ⟨B n, openedS (B n) st.stk, rfl, fun m hm => hf m (hsx.subset hm), by rw [L_B]; exact hso, by rw [L_B]; exact hE⟩) ht
  | one n l sf d r hn ha hso hd hraw hE hr ih =>
    intro st o hb hm ht
    have hf := hm.free (show (1 : Int) ≠ 2 by decide)
    rw [tree_cons'] at ht
    split at ht
    · cases ht
    have hi := hb.inv.step ⟨1, B n, B [], l, sf⟩
    obtain ⟨f1, f2⟩ := soft_facts hso
    have hstep := step_k1 (st := st) (t := ⟨1, B n, B [], l, sf⟩) rfl f1
    rw [if_neg (show ¬ isIn (B n) voidL = true by rw [f2]; simp)] at hstep
    rw [hstep] at hi ht
    have hsx := openedS_suffix (B n) st.stk
    obtain ⟨h1, h2⟩ := hb.row hsx hf ⟨(openedS (B n) st.stk).length, 0, B n, ⟨#[]⟩, once l⟩ rfl ⟨fun _ => ⟨by show nmOk (L (B n)); rw [L_B]; exact hn, once_ok ha⟩, fun e => absurd e (show ¬ (0 : Int) = 2 by decide)⟩
    rw [tree_cons'] at ht
    split at ht
    · cases ht
    have hi2 := hi.step (tx d)
    have hstep2 := step_text (d := d) hd (B n :: openedS (B n) st.stk) (st.out ++ [⟨(openedS (B n) st.stk).length, 0, B n, ⟨#[]⟩, once l⟩]) (fun y hy => by
      rw [List.getLast?_append] at hy
      have hy : some (⟨(openedS (B n) st.stk).length, 0, B n, ⟨#[]⟩, once l⟩ : Ro) = some y := by simpa using hy
      injection hy with hy
      rw [← hy]; exact .inl (show (0 : Int) ≠ 1 by decide))
    rw [hstep2] at hi2 ht
    refine ih ⟨hi2, sof_snoc h1 (fun m h0 hm hsm => ?_), fun y hy => ?_⟩ (.inr ⟨B n, openedS (B n) st.stk, rfl, fun m hm => hf m (hsx.subset hm), by rw [L_B]; exact hso, by rw [L_B]; exact hE⟩) ht
    · have hle := hi.le
      have heq := hi.eq
      have hlen : (B n :: openedS (B n) st.stk).length = (openedS (B n) st.stk).length + 1 := rfl
      have hto : ((((B n :: openedS (B n) st.stk).length : Nat) : Int)).toNat - 1 = (openedS (B n) st.stk).length := by omega
      have hm : (pathFrom [] (st.out ++ [⟨(openedS (B n) st.stk).length, 0, B n, ⟨#[]⟩, once l⟩]))[((((B n :: openedS (B n) st.stk).length : Nat) : Int)).toNat - 1]? = some m := hm
      rw [hto] at hm
      have hm2 : ((pathFrom [] (st.out ++ [⟨(openedS (B n) st.stk).length, 0, B n, ⟨#[]⟩, once l⟩])).take (B n :: openedS (B n) st.stk).length)[(openedS (B n) st.stk).length]? = some m := by
        rw [List.getElem?_take, if_pos (by omega)]; exact hm
      have heq : (pathFrom [] (st.out ++ [⟨(openedS (B n) st.stk).length, 0, B n, ⟨#[]⟩, once l⟩])).take (B n :: openedS (B n) st.stk).length = (B n :: openedS (B n) st.stk).reverse := heq
      rw [heq, List.reverse_cons, List.getElem?_append_right (by rw [List.length_reverse]; exact Nat.le_refl _), List.length_reverse, Nat.sub_self] at hm2
      have hmn : B n = m := by simpa using hm2
      subst hmn
      refine ⟨rfl, fun hrb => ?_⟩
      rw [L_B] at hrb ⊢
      show lead (isEnd n) (L (B d)) = L (B d)
      rw [L_B]; exact hraw hrb
    · rcases List.mem_append.1 hy with e | e
      · exact h2 y e
      · rw [List.mem_singleton.1 e]; exact text_ok _ _

theorem path_take : ∀ (l : List Ro) (p : List ByteArray) (d : Nat), (∀ y ∈ l, (d : Int) ≤ y.depth) → d ≤ p.length → goodFrom p l → (pathFrom p l).take d = p.take d ∧ d ≤ (pathFrom p l).length
  | [], p, d, _, hd, _ => ⟨rfl, hd⟩
  | x :: r, p, d, h, hd, hg => by
    have hx := h x List.mem_cons_self
    obtain ⟨⟨g1, g2, _⟩, g3⟩ := hg
    have hl : (p.take x.depth.toNat).length = x.depth.toNat := by rw [List.length_take]; omega
    obtain ⟨i1, i2⟩ := path_take r (pathStep p x) d (fun y hy => h y (List.mem_cons_of_mem _ hy)) (by unfold pathStep; rw [List.length_append, hl]; omega) g3
    refine ⟨?_, i2⟩
    show (pathFrom (pathStep p x) r).take d = _
    rw [i1]
    unfold pathStep
    rw [List.take_append_of_le_length (by rw [hl]; omega), List.take_take, Nat.min_eq_left (by omega)]
theorem tr_flat (n : Nat) : ∀ (s p : List ByteArray) (l : List Ro), l.length ≤ n → (∀ y ∈ l, (s.length : Int) ≤ y.depth) → Ro.rightFrom s.length l = true → calm l → p.take s.length = s.reverse → s.length ≤ p.length → goodFrom p l → sofFrom p l → (∀ x ∈ l, rowOk x) → Tr s l := by
  induction n with
  | zero =>
    intro s p l h _ _ _ _ _ _ _ _
    obtain rfl : l = [] := List.eq_nil_of_length_eq_zero (by omega)
    exact .nil s
  | succ n ih =>
    intro s p l h hd hr hn hp hpl hg hs hk
    cases l with
    | nil => exact .nil s
    | cons x r =>
      have hx := hd x List.mem_cons_self
      rw [Ro.rightFrom] at hr
      simp only [Bool.and_eq_true, decide_eq_true_eq] at hr
      obtain ⟨⟨⟨r1, r2⟩, r3⟩, r4⟩ := hr
      have hdep : x.depth = (s.length : Int) := by omega
      have hto : x.depth.toNat = s.length := by omega
      obtain ⟨⟨g1, g2, g3, g4, g5⟩, gr⟩ := hg
      obtain ⟨s1, sr⟩ := hs
      obtain ⟨n1, n0, n2⟩ := hn
      have hkx := hk x List.mem_cons_self
      rw [hto, hp, List.reverse_reverse] at g5
      have hlen := len_parts x r
      rw [List.length_cons] at h
      have hib := inn_beh x r
      have hinn : ∀ y ∈ inn x r, x.depth < y.depth := fun y hy => by
        have := mem_tw _ _ y hy
        unfold deep at this
        simpa using this
      have hbd : ∀ y ∈ beh x r, (s.length : Int) ≤ y.depth := fun y hy => hd y (List.mem_cons_of_mem _ (by rw [← hib]; exact List.mem_append_right _ hy))
      have hbh : ∀ y, (beh x r).head? = some y → y.depth ≤ (s.length : Int) := fun y hy => by
        have : deep x.depth y = false := Ro.stops (deep x.depth) r y (by rw [← Wr.dw_drop]; exact hy)
        unfold deep at this
        have := of_decide_eq_false this
        omega
      have hps : pathStep p x = s.reverse ++ (if x.kind = 0 then [x.name] else []) := by
        unfold pathStep
        rw [hto, hp]
      have hkr : ∀ y ∈ r, rowOk y := fun y hy => hk y (List.mem_cons_of_mem _ hy)
      have hfit : Fit s x := ⟨hdep, r3, fun h0 => ⟨(g5 h0).1, (g5 h0).2, (hkx.1 h0).1, (hkx.1 h0).2⟩, hkx.2, n1⟩
      rw [hps] at gr sr
      rw [← hib] at gr sr r4
      obtain ⟨gi, gb⟩ := good_append gr
      obtain ⟨si, sb⟩ := sof_append sr
      have hcalm : calm (inn x r) ∧ calm (beh x r) := by
        have hsplit : ∀ a b : List Ro, calm (a ++ b) → calm a ∧ calm b := fun a => by
          induction a with
          | nil => intro b hc; exact ⟨trivial, hc⟩
          | cons y a ih =>
            intro b hc
            obtain ⟨c1, c2, c3⟩ := hc
            obtain ⟨k1, k2⟩ := ih b c3
            refine ⟨⟨c1, fun z hz => c2 z ?_, k1⟩, k2⟩
            cases a with
            | nil => cases hz
            | cons u v => exact hz
        exact hsplit _ _ (by rw [hib]; exact n2)
      have hlp : s.length ≤ (s.reverse ++ (if x.kind = 0 then [x.name] else [])).length := by rw [List.length_append, List.length_reverse]; omega
      have hpt := path_take (inn x r) (s.reverse ++ (if x.kind = 0 then [x.name] else [])) s.length (fun y hy => by have := hinn y hy; omega) hlp gi
      have hpb : (pathFrom (s.reverse ++ (if x.kind = 0 then [x.name] else [])) (inn x r)).take s.length = s.reverse := by
        rw [hpt.1, List.take_append_of_le_length (by rw [List.length_reverse]; exact Nat.le_refl _), List.take_of_length_le (by rw [List.length_reverse]; exact Nat.le_refl _)]
      rw [Ro.right_append, Bool.and_eq_true] at r4
      have hbr : Ro.rightFrom s.length (beh x r) = true := Ro.right_head r4.2 hbh
      have hbeh := ih s _ (beh x r) (by omega) hbd hbr hcalm.2 hpb hpt.2 gb sb (fun y hy => hkr y (by rw [← hib]; exact List.mem_append_right _ hy))
      by_cases h0 : x.kind = 0
      · rw [if_pos h0] at gi si r4
        have hrev : s.reverse ++ [x.name] = (x.name :: s).reverse := by rw [List.reverse_cons]
        rw [hrev] at gi si
        have hl1 : (x.name :: s).length = s.length + 1 := rfl
        have hinr : Ro.rightFrom ((x.name :: s).length : Nat) (inn x r) = true := by
          have e : (((x.name :: s).length : Nat) : Int) = x.depth + 1 := by omega
          rw [e]; exact r4.1
        have htr := ih (x.name :: s) (x.name :: s).reverse (inn x r) (by omega) (fun y hy => by have := hinn y hy; omega) hinr hcalm.1 (List.take_of_length_le (by rw [List.length_reverse]; exact Nat.le_refl _)) (by rw [List.length_reverse]; exact Nat.le_refl _) gi si (fun y hy => hkr y (by rw [← hib]; exact List.mem_append_left _ hy))
        have hfst : ∀ y t, inn x r = y :: t → y.depth = x.depth + 1 ∧ fits (x.name :: s).reverse y ∧ sofRow (x.name :: s).reverse y := fun y t e => by
          have e2 := r4.1
          have e3 := hinn y (by rw [e]; exact List.mem_cons_self)
          rw [e] at gi si
          rw [e, Ro.rightFrom] at e2
          simp only [Bool.and_eq_true, decide_eq_true_eq] at e2
          exact ⟨by omega, gi.1, si.1⟩
        have hat : ∀ y : Ro, y.depth = x.depth + 1 → (x.name :: s).reverse[y.depth.toNat - 1]? = some x.name := fun y hy => by
          rw [List.reverse_cons, List.getElem?_append_right (by rw [List.length_reverse]; omega), List.length_reverse, show y.depth.toNat - 1 - s.length = 0 by omega]; rfl
        refine .one s x r hfit (fun hh => ?_) (fun _ => htr) (fun hh hso => ?_) (fun h1 => by omega) hbeh
        · cases hi : inn x r with
          | nil => rfl
          | cons y t =>
            obtain ⟨e1, e2, e3⟩ := hfst y t hi
            have := e2.2.2.2.1 x.name (by omega) (hat y e1)
            rw [holds_void h0 hh] at this; cases this
        · cases hi : inn x r with
          | nil => exact .inl rfl
          | cons y t =>
            obtain ⟨e1, e2, e3⟩ := hfst y t hi
            obtain ⟨y1, y2⟩ := e3 x.name (by omega) (hat y e1) hso
            have ht : t = [] := by
              cases t with
              | nil => rfl
              | cons z u =>
                exfalso
                have q1 := r4.1
                have q3 := hinn z (by rw [hi]; exact List.mem_cons_of_mem _ List.mem_cons_self)
                have q4 := hcalm.1
                have q5 := si
                rw [hi] at q1 q4 q5
                rw [Ro.rightFrom, Ro.rightFrom, if_neg (by omega)] at q1
                simp only [Bool.and_eq_true, decide_eq_true_eq] at q1
                have hzd : z.depth = x.depth + 1 := by omega
                have hpz : (pathStep (x.name :: s).reverse y)[z.depth.toNat - 1]? = some x.name := by
                  unfold pathStep
                  rw [if_neg (by omega), List.append_nil, List.getElem?_take, if_pos (by omega)]
                  exact hat z hzd
                have hz1 := (q5.2.1 x.name (by omega) hpz hso).1
                exact q4.2.1 z rfl ⟨y1, hz1, by omega⟩
            subst ht
            exact .inr ⟨y, rfl, y1, y2⟩
      · rw [if_neg h0] at r4
        have hin : inn x r = [] := by
          cases hi : inn x r with
          | nil => rfl
          | cons y t =>
            exfalso
            have e3 := hinn y (by rw [hi]; exact List.mem_cons_self)
            have e2 := r4.1
            rw [hi, Ro.rightFrom] at e2
            simp only [Bool.and_eq_true, decide_eq_true_eq] at e2
            omega
        refine .one s x r hfit (fun _ => hin) (fun hh => absurd (holds_kind hh).1 h0) (fun hh => absurd (holds_kind hh).1 h0) (fun h1 y hy hy1 => ?_) hbeh
        have e1 := hbh y hy
        have e2 := hbd y (List.mem_of_mem_head? hy)
        have hb : beh x r = r := by rw [hin, List.nil_append] at hib; exact hib
        rw [hb] at hy
        exact n0 y hy ⟨h1, hy1, by omega⟩
theorem built_back {T : List Tk} {o : List Ro} (hS : Sof T) (hC : ∀ t ∈ T, TkCl t) (h : treeB ⟨[], []⟩ T = some o) : Tr [] o ∧ small o ∧ (∀ x ∈ o, RowCl x) ∧ ∀ x ∈ o, 0 ≤ x.depth := by
  obtain ⟨h1, h2, h3, h4⟩ := tree_all h
  obtain ⟨s1, s2⟩ := sof_build hS ⟨inv_nil, trivial, fun x hx => by cases hx⟩ (.inl fun n hn => by cases hn) h
  have hg := tree_good inv_nil h
  have h0 := depth_right h2
  exact ⟨tr_flat o.length [] [] o (Nat.le_refl _) (fun y hy => h0 y hy) h2 hg.2 rfl (Nat.le_refl _) hg.1 s1 s2, h4, cl_tree hC (fun x hx => by cases hx) h, h0⟩

end Go.Proofs.YtgjlfcamgkeibaaGreatDoor.Wm

namespace Go.Proofs.YtgjlfcamgkeibaaGreatDoor.Wm
set_option linter.unusedVariables false
set_option linter.unusedSimpArgs false
open Ba Fm Rm Nm Bm
open Ro (At Ro)
open Bu (rdy)
open Tm (Tk bulkA bulkT bulk within)
open Wr (rb insideB rest)
def cost (x : Ro) : Nat := if x.kind = 0 then 5 + 2 * x.name.size + 6 * bulkA x.attrs + 4 * x.attrs.length else if x.kind = 1 then 6 * x.data.size else 7 + x.data.size
def costs (l : List Ro) : Nat := (l.map cost).sum
theorem costs_append (a b : List Ro) : costs (a ++ b) = costs a + costs b := by unfold costs; rw [List.map_append, List.sum_append]
theorem costs_one (x : Ro) : costs [x] = cost x := by unfold costs; rw [List.map_cons, List.map_nil, List.sum_cons, List.sum_nil, Nat.add_zero]
theorem cost_node (raw : Bool) (x : Ro) : (node raw x).length + (if holds x = true then (endW x).length else 0) ≤ cost x := by
  have h1 := Wr.len_wAs x.attrs
  have h2 := (len_esc false (L x.data)).2.1
  rw [size_L] at h2
  have he : (endW x).length = x.name.size + 3 := by
    unfold endW
    simp only [List.length_append, List.length_cons, List.length_nil, size_L]
    omega
  rw [he]
  unfold cost node tagW
  by_cases h0 : x.kind = 0
  · rw [if_pos h0, if_pos h0]
    simp only [List.length_append, List.length_cons, List.length_nil, size_L]
    split <;> omega
  · have hif : (if holds x = true then x.name.size + 3 else 0) = 0 := by rw [holds_no h0]; rfl
    rw [if_neg h0, if_neg h0, hif]
    by_cases h1 : x.kind = 1
    · rw [if_pos h1, if_pos h1]
      cases raw with
      | true => rw [if_pos rfl, size_L]; omega
      | false => rw [if_neg (by simp)]; omega
    · rw [if_neg h1, if_neg h1]
      by_cases h2 : x.kind = 2
      · rw [if_pos h2]
        simp only [List.length_append, List.length_cons, List.length_nil, size_L]; omega
      · rw [if_neg h2]
        simp only [List.length_nil]; omega
theorem cost_wr (n : Nat) : ∀ (l : List Ro) (raw : Bool), l.length ≤ n → (wr raw l).length ≤ costs l := by
  induction n with
  | zero =>
    intro l raw h
    obtain rfl : l = [] := List.eq_nil_of_length_eq_zero (by omega)
    rw [wr_nil]; exact Nat.zero_le _
  | succ n ih =>
    intro l raw h
    cases l with
    | nil => rw [wr_nil]; exact Nat.zero_le _
    | cons x r =>
      rw [wr_cons, List.length_append, List.length_append]
      have hp := len_parts x r
      rw [List.length_cons] at h
      have h1 := ih (inn x r) (isIn x.name rawL) (by omega)
      have h2 := ih (beh x r) raw (by omega)
      have h3 := cost_node raw x
      have h4 : costs (x :: r) = cost x + (costs (inn x r) + costs (beh x r)) := by
        rw [← costs_append, inn_beh]
        unfold costs
        rw [List.map_cons, List.sum_cons]
      rw [h4]
      cases hh : holds x with
      | true =>
        rw [hh, if_pos rfl] at h3
        rw [if_pos rfl, List.length_append]
        omega
      | false =>
        rw [hh, if_neg (by simp)] at h3
        rw [if_neg (by simp)]
        simp only [List.length_nil]
        omega
theorem bulk_once (l : List At) : bulkA (once l) ≤ bulkA l ∧ (once l).length ≤ l.length := by
  have hput : ∀ (acc : List At) (a : At), bulkA (Tm.put acc a) ≤ bulkA acc + (a.name.size + a.value.size) ∧ (Tm.put acc a).length ≤ acc.length + 1 := fun acc a => by
    unfold Tm.put
    split
    · omega
    · unfold bulkA
      rw [List.map_append, List.sum_append, List.length_append]
      simp
  have : ∀ (l acc : List At), bulkA (l.foldl Tm.put acc) ≤ bulkA acc + bulkA l ∧ (l.foldl Tm.put acc).length ≤ acc.length + l.length := fun l => by
    induction l with
    | nil => intro acc; exact ⟨Nat.le_add_right _ _, Nat.le_add_right _ _⟩
    | cons a r ih =>
      intro acc
      obtain ⟨i1, i2⟩ := ih (Tm.put acc a)
      obtain ⟨p1, p2⟩ := hput acc a
      have e : bulkA (a :: r) = a.name.size + a.value.size + bulkA r := by simp [bulkA]
      rw [List.foldl_cons, List.length_cons]
      omega
  obtain ⟨h1, h2⟩ := this l []
  have e : bulkA [] = 0 := rfl
  have e2 : ([] : List At).length = 0 := rfl
  unfold once
  omega
theorem cost_step (st : St) (t : Tk) : costs (stepB st t).out ≤ costs st.out + (6 * bulkT t + 7) := by
  have hb : bulkT t = t.name.size + t.data.size + bulkA t.attrs + t.attrs.length := rfl
  unfold stepB
  split
  · split
    · omega
    · have hnew : ∀ d : Int, cost ⟨d, 1, ⟨#[]⟩, t.data, []⟩ ≤ 6 * bulkT t + 7 := fun d => by
        unfold cost
        rw [if_neg (show ¬ (1 : Int) = 0 by decide), if_pos rfl]
        show 6 * t.data.size ≤ _
        omega
      show costs (addText st.out st.stk.length t.data) ≤ _
      unfold addText
      split
      · rename_i y hy
        split
        · rename_i hyk
          have he := Bm.last_snoc hy
          have hc : costs st.out = costs st.out.dropLast + cost y := by
            conv => lhs; rw [he]
            rw [costs_append, costs_one]
          rw [costs_append, costs_one, hc]
          have hy1 : cost y = 6 * y.data.size := by unfold cost; rw [if_neg (by omega), if_pos hyk.1]
          have hy2 : cost ⟨y.depth, y.kind, y.name, y.data ++ t.data, y.attrs⟩ = 6 * (y.data.size + t.data.size) := by
            unfold cost
            rw [if_neg (show ¬ y.kind = 0 by omega), if_pos (show y.kind = 1 from hyk.1)]
            show 6 * (y.data ++ t.data).size = _
            rw [size_append]
          rw [hy1, hy2]
          omega
        · rw [costs_append, costs_one]; have := hnew st.stk.length; omega
      · rw [costs_append, costs_one]; have := hnew st.stk.length; omega
  split
  · rw [costs_append, costs_one]
    have : cost ⟨st.stk.length, 2, ⟨#[]⟩, t.data, []⟩ = 7 + t.data.size := rfl
    omega
  split
  · split
    · omega
    · rw [costs_append, costs_one]
      have e : cost ⟨(openedS t.name st.stk).length, 0, t.name, ⟨#[]⟩, once t.attrs⟩ = 5 + 2 * t.name.size + 6 * bulkA (once t.attrs) + 4 * (once t.attrs).length := rfl
      obtain ⟨h1, h2⟩ := bulk_once t.attrs
      omega
  split
  · split
    · omega
    · split
      · exact Nat.le_add_right _ _
      · split
        · rw [costs_append, costs_one]
          have e : cost ⟨st.stk.length, 0, n_p, ⟨#[]⟩, []⟩ = 7 := rfl
          omega
        · omega
  · omega
theorem cost_tree : ∀ {T : List Tk} {st : St} {o : List Ro}, treeB st T = some o → costs o ≤ costs st.out + (6 * bulk T + 7 * T.length)
  | [], st, o, h => by
    injection h with h
    rw [← h]; exact Nat.le_add_right _ _
  | t :: r, st, o, h => by
    rw [tree_cons'] at h
    split at h
    · cases h
    · have h1 := cost_tree h
      have h2 := cost_step st t
      have e : bulk (t :: r) = bulkT t + bulk r := by unfold bulk; rw [List.map_cons, List.sum_cons]
      rw [e, List.length_cons]
      omega
theorem rb_cost {x : Ro} (h : Ro.okRow x = true) : rb x ≤ cost x := by
  unfold rb cost
  by_cases h0 : x.kind = 0
  · rw [if_pos h0]
    obtain ⟨hr, _⟩ := raw_row h h0
    have hd : x.data.size = 0 := by rw [hr]; rfl
    omega
  · rw [if_neg h0]
    have hn : x.name.size = 0 ∧ x.attrs = [] := by
      unfold Ro.okRow at h
      rw [if_neg (by simpa using h0)] at h
      simp only [Bool.and_eq_true] at h
      obtain ⟨⟨_, h1⟩, h2⟩ := h
      refine ⟨by rw [Bm.empty_name h1]; rfl, List.eq_nil_of_length_eq_zero (by have := beq_iff_eq.1 h2; omega)⟩
    rw [hn.1, hn.2]
    have e : bulkA [] = 0 := rfl
    rw [e]
    simp only [List.length_nil]
    split <;> omega
theorem cost_mem {l : List Ro} {x : Ro} (h : x ∈ l) : cost x ≤ costs l := by
  unfold costs
  induction l with
  | nil => cases h
  | cons y r ih =>
    rw [List.map_cons, List.sum_cons]
    rcases List.mem_cons.1 h with rfl | h
    · omega
    · have := ih h; omega
theorem stays {s : List UInt8} {o : List Ro} (hs : s.length ≤ 500) (h : treeB ⟨[], []⟩ (within [] (rdy s)) = some o) :
    treeB ⟨[], []⟩ (within [] (rdy (insideB o (-1)))) = some o ∧ (insideB o (-1)).length ≤ 60000 ∧ (within [] (rdy (insideB o (-1)))).length ≤ 10000 ∧ o.length ≤ 4096 ∧ ∀ x ∈ o, rb x ≤ 60000 := by
  have hcl := cl_within (n := []) (cl_ready s)
  have hw := Tm.within_nil (rdy s)
  have hS : Sof (within [] (rdy s)) := by rw [hw]; exact sof_all _
  obtain ⟨h1, h2, h3, h4⟩ := built_back hS hcl h
  have hc := cl_wr o.length o false (Nat.le_refl _) h3
  have hin := inside_all h4
  have hct := cost_tree h
  have hlr := Bu.len_rdy s
  have hwl := Tm.within_len [] (rdy s)
  have hwb := Tm.bulk_within [] (rdy s)
  have hc0 : costs (⟨[], []⟩ : St).out = 0 := rfl
  have hco : costs o ≤ 60000 := by omega
  have hlw := cost_wr o.length o false (Nat.le_refl _)
  obtain ⟨_, h5, _, _⟩ := tree_all h
  rw [hin, cl_rdy hc, Tm.within_nil, cut_wr h1]
  refine ⟨?_, by omega, ?_, h2.1, fun x hx => ?_⟩
  · have := back h1 h2
    rwa [cut_wr h1] at this
  · have := Tm.within_len [] []
    have hlt : (toks o).length ≤ 2 * o.length := len_toks o.length o (Nat.le_refl _)
    have := h2.1
    omega
  · have := cost_mem hx
    have := rb_cost (Ro.right_ok _ 0 h5 x hx)
    omega

end Go.Proofs.YtgjlfcamgkeibaaGreatDoor.Wm

namespace Go.Proofs.YtgjlfcamgkeibaaGreatDoor.Se
set_option linter.unusedVariables false
set_option linter.unusedSimpArgs false
open Ba Ro
open Co (Cf)
open Cn (errI outL cleanL K nr jn jt Wd fo_right one fateN attrsF)
open Wm (cost costs)
open Wr (rb insideB)
open Bm (treeB)
open Bu (rdy)
open Tm (bulkA within)
def par (s : List UInt8) : Option (List Ro) := if 65536 < s.length then none else treeB ⟨[], []⟩ (within [] (rdy s))
def loopM (c : Cf) (s : Bool) : Nat → Nat → List Ro → List Ro × Nat × Int
  | 0, n, _ => ([], n, 0)
  | k + 1, n, l => if errI c l = 0 then
      match par (insideB (outL c s l) (-1)) with
      | none => ([], n + 1, 0)
      | some p => if p = outL c s l then (p, n + 1, 0) else if k = 0 then ([], n + 1, 0) else loopM c s k (n + 1) p
    else ([], n, errI c l)
def stableB (l : List Ro) : Bool := decide (par (insideB l (-1)) = some l)

theorem cost_filter (x : Ro) (p : At → Bool) (e : Int) : cost ⟨e, x.kind, x.name, x.data, x.attrs.filter p⟩ ≤ cost x := by
  have h1 : ∀ l : List At, bulkA (l.filter p) ≤ bulkA l := by
    intro l
    unfold bulkA
    induction l with
    | nil => exact Nat.le_refl _
    | cons a r ih =>
      rw [List.filter_cons]
      split
      · rw [List.map_cons, List.map_cons, List.sum_cons, List.sum_cons]; omega
      · rw [List.map_cons, List.sum_cons]; omega
  have h2 := h1 x.attrs
  have h3 := List.length_filter_le p x.attrs
  unfold cost
  show (if x.kind = 0 then _ else _) ≤ (if x.kind = 0 then _ else _)
  split
  · show 5 + 2 * x.name.size + 6 * bulkA (x.attrs.filter p) + 4 * (x.attrs.filter p).length ≤ _
    omega
  · exact Nat.le_refl _
theorem costs_cons (x : Ro) (l : List Ro) : costs (x :: l) = cost x + costs l := by unfold costs; rw [List.map_cons, List.sum_cons]
theorem costs_nil : costs [] = 0 := rfl
theorem costs_K {g : Ro → Nat} {f : Ro → List At} (hf : ∀ (x : Ro) (e : Int), cost ⟨e, x.kind, x.name, x.data, f x⟩ ≤ cost x) {d : Int} {r : List Ro} (h : Wd d r) : ∀ e : Int, costs (K g f e r) ≤ costs r := by
  refine Cn.fo_ind (P := fun d r => ∀ e : Int, costs (K g f e r) ≤ costs r) (fun d e => Nat.le_refl _) ?_ d r h
  intro d x b r h1 h0 h2 h3 h4 h5 ihb ihr e
  rw [Cn.K_tree e h1 h3 h4, Wm.costs_append, costs_cons, Wm.costs_append]
  have hr := ihr e
  unfold one
  split
  · rw [costs_nil]; omega
  · split
    · have := ihb (e + 1); have := hf x e
      rw [costs_cons]; omega
    · have := ihb e; omega
theorem cost_text (d : Int) (z : ByteArray) : cost ⟨d, 1, .empty, z, []⟩ = 6 * z.size := by
  unfold cost; rw [if_neg (show ¬ (1 : Int) = 0 by decide), if_pos rfl]
theorem costs_jt (d : Int) (a : List UInt8) (m : List Ro) : costs (jt d a m) ≤ 6 * a.length + costs m := by
  unfold jt
  split
  · omega
  · cases m with
    | nil => rw [costs_cons, cost_text, size_B]; omega
    | cons y t =>
      show costs (if _ then _ else _) ≤ _
      split
      · rename_i hy
        rw [costs_cons, costs_cons, cost_text, size_B, List.length_append, size_L]
        have : cost y = 6 * y.data.size := by unfold cost; rw [if_neg (by rw [hy.1]; decide), if_pos hy.1]
        omega
      · rw [costs_cons, cost_text, size_B]; omega
theorem costs_nr : ∀ l : List Ro, costs (nr l) ≤ costs l
  | [] => Nat.le_refl _
  | x :: l => by
    have ih := costs_nr l
    rw [Cn.nr_cons, costs_cons]
    by_cases hk : x.kind = 1
    · rw [Cn.jn_text hk]
      have h1 := costs_jt x.depth (L x.data) (nr l)
      have h2 : cost x = 6 * x.data.size := by unfold cost; rw [if_neg (by rw [hk]; decide), if_pos hk]
      rw [size_L] at h1
      omega
    · rw [Cn.jn_other hk, costs_cons]; omega
theorem costs_clean (c : Cf) (s : Bool) {l : List Ro} (h : right l = true) : costs (cleanL c s l) ≤ costs l := by
  rw [Cn.clean_nr c s h]
  exact Nat.le_trans (costs_nr _) (costs_K (fun x e => cost_filter x _ e) (fo_right h) 0)

structure Fit (l : List Ro) : Prop where
  len : l.length ≤ 4096
  row : ∀ x ∈ l, rb x ≤ 7000000
  sum : costs l ≤ 7000000
theorem Fit.nil : Fit [] := ⟨Nat.zero_le _, fun x h => (by cases h), Nat.zero_le _⟩
theorem at_bulk {l : List At} {a : At} (h : a ∈ l) : a.name.size + a.value.size ≤ bulkA l := by
  unfold bulkA
  induction l with
  | nil => cases h
  | cons y r ih =>
    rw [List.map_cons, List.sum_cons]
    rcases List.mem_cons.1 h with rfl | h
    · omega
    · have := ih h; omega
theorem Fit.small {l : List Ro} (h : Fit l) : Rz.Small l := fun x hx => by
  have := h.row x hx
  unfold rb at this
  refine ⟨by omega, by omega, fun a ha => ?_⟩
  have := at_bulk ha
  exact ⟨by omega, by omega⟩
theorem txt_costs : ∀ l : List Ro, (txt l).length ≤ costs l
  | [] => Nat.le_refl _
  | x :: l => by
    have ih := txt_costs l
    rw [txt, List.length_append, costs_cons]
    split
    · rename_i hk
      have : cost x = 6 * x.data.size := by unfold cost; rw [if_neg (by rw [hk]; decide), if_pos hk]
      rw [size_L]; omega
    · rw [List.length_nil]; omega
theorem Fit.txt {l : List Ro} (h : Fit l) : (txt l).length ≤ 1000000000 := by
  have := txt_costs l; have := h.sum; omega
theorem Fit.of {l : List Ro} (h : l.length ≤ 4096) (hr : right l = true) (hc : costs l ≤ 7000000) : Fit l :=
  ⟨h, fun x hx => by
    have h1 := Wm.rb_cost (Ro.right_ok _ 0 hr x hx)
    have h2 := Wm.cost_mem hx
    omega, hc⟩
theorem out_right (c : Cf) (s : Bool) (l : List Ro) : right (outL c s l) = true := by
  unfold outL
  split
  · rename_i h
    exact Cn.clean_right c s (check_parts (Cn.err_ok.1 h).2).2
  · rfl
theorem out_fit {c : Cf} {s : Bool} {l : List Ro} (h : Fit l) : Fit (outL c s l) := by
  refine .of ?_ (out_right c s l) ?_
  · unfold outL
    split
    · rename_i h1
      exact Nat.le_trans (Cn.clean_len c s (check_parts (Cn.err_ok.1 h1).2).2) h.len
    · exact Nat.zero_le _
  · unfold outL
    split
    · rename_i h1
      exact Nat.le_trans (costs_clean c s (check_parts (Cn.err_ok.1 h1).2).2) h.sum
    · exact Nat.zero_le _

theorem par_tree {s : List UInt8} {o : List Ro} (h : par s = some o) : s.length ≤ 65536 ∧ treeB ⟨[], []⟩ (within [] (rdy s)) = some o := by
  unfold par at h
  split at h
  · cases h
  · exact ⟨by omega, h⟩
theorem par_check {s : List UInt8} {o : List Ro} (h : par s = some o) : check o = 0 ∧ right o = true ∧ Nrm o := by
  obtain ⟨_, h⟩ := par_tree h
  obtain ⟨_, h2, h3, h4⟩ := Bm.tree_all h
  refine ⟨check_of ?_ h2, h2, ?_⟩
  · cases he : exceeds o 4096 60 with
    | false => rfl
    | true =>
      rcases (exceeds_iff _ _ _).1 he with h | ⟨x, hx, h⟩
      · have := h4.1; omega
      · have := h4.2 x hx; omega
  · rw [← h3]; exact nrm_normal _ _ 0 (Nat.le_refl _) h2
theorem par_fit {s : List UInt8} {o : List Ro} (h : par s = some o) : Fit o := by
  obtain ⟨hs, ht⟩ := par_tree h
  have hct := Wm.cost_tree ht
  have hlr := Bu.len_rdy s
  have hwl := Tm.within_len [] (rdy s)
  have hwb := Tm.bulk_within [] (rdy s)
  have hc0 : costs (⟨[], []⟩ : Bm.St).out = 0 := rfl
  obtain ⟨_, _, _, h4⟩ := Bm.tree_all ht
  exact .of h4.1 (par_check h).2.1 (by omega)
theorem par_nil : par [] = some [] := by
  unfold par
  rw [if_neg (by decide)]
  have h1 : rdy [] = [] := rfl
  rw [h1, show within [] [] = [] from by rw [Tm.within_eval]; rfl]
  rfl
theorem ins_nil : insideB [] (-1) = [] := by
  unfold insideB
  rw [if_pos rfl]
  have h : Wr.rest [] (-1) 0 = [] := rfl
  rw [h, Wm.wr_nil]
theorem nil_stable : stableB [] = true := by
  unfold stableB
  rw [ins_nil, par_nil]
  exact decide_eq_true rfl
theorem loop_fit (c : Cf) (s : Bool) : ∀ (k n : Nat) (l : List Ro), Fit l → Fit (loopM c s k n l).1
  | 0, n, l, _ => Fit.nil
  | k + 1, n, l, h => by
    rw [loopM]
    split
    · cases hp : par (insideB (outL c s l) (-1)) with
      | none => exact Fit.nil
      | some p =>
        have hf := par_fit hp
        show Fit (if p = _ then _ else _ : List Ro × Nat × Int).1
        split
        · exact hf
        · split
          · exact Fit.nil
          · exact loop_fit c s k (n + 1) p hf
    · exact Fit.nil
theorem loop_err {c : Cf} {s : Bool} {k n : Nat} {l : List Ro} (h : errI c l ≠ 0) : loopM c s (k + 1) n l = ([], n, errI c l) := by
  rw [loopM, if_neg h]
theorem loop_one {c : Cf} {s : Bool} {k n : Nat} {T : List Ro} (he : errI c T = 0) (h : outL c s T = T) (hp : par (insideB T (-1)) = some T) : loopM c s (k + 1) n T = (T, n + 1, 0) := by
  rw [loopM, if_pos he, h, hp]
  show (if T = T then _ else _ : List Ro × Nat × Int) = _
  rw [if_pos rfl]
theorem par_back {s : List UInt8} {o : List Ro} (hs : s.length ≤ 500) (h : par s = some o) : par (insideB o (-1)) = some o := by
  obtain ⟨m1, m2, _⟩ := Wm.stays hs (par_tree h).2
  unfold par
  rw [if_neg (by omega)]
  exact m1
theorem par_once {s : List UInt8} {o : List Ro} (hs : s.length ≤ 500) (h : par s = some o) (k n : Nat) : loopM Co.allC false (k + 1) n o = (o, n + 1, 0) := by
  obtain ⟨h1, h2, h3⟩ := par_check h
  have he : errI Co.allC o = 0 := Cn.err_ok.2 ⟨by decide, h1⟩
  refine loop_one he ?_ (par_back hs h)
  rw [outL, if_pos he]
  exact Cn.all_stays h2 h3

end Go.Proofs.YtgjlfcamgkeibaaGreatDoor.Se

namespace Go.Proofs.YtgjlfcamgkeibaaGreatDoor.Bu
set_option maxRecDepth 100000
set_option linter.unusedVariables false
set_option linter.unusedSimpArgs false
open Go.RowKit Ba Fm Fo Nm Bm
open Ro (At Ro Cw ros Fr Ow Rv cells)
open Tm (Tk within bulk bulkT bulkA)
open To (Tw tks)
open Re (Tab)
theorem readyW (s : ByteArray) (w : World) (hs : s.size ≤ 65536) :
    Calls Tryz.prog 76 #[.string s] w fun e w' => e = .returned (.string (B (rdy (L s)))) ∧ Below w.heap.size w w' := by
  have hsz := size_L s
  have hdl := Ch.len_dL (L s)
  refine (Ch.ready_any s w (by omega) (show (Ch.dL (L s)).length ≤ _ from by omega)).mono ?_
  rintro e w1 ⟨rfl, b1⟩
  exact ⟨rfl, b1⟩
set_option maxRecDepth 100000 in
set_option maxHeartbeats 1000000 in
theorem InW_any (s nm : ByteArray) (w : World) (hs : s.size ≤ 65536) (hn : nm.size ≤ 140737488351232) (hT : Tab w) (hwl : (within (L nm) (rdy (L s))).length ≤ 700000) :
    Calls Tryz.prog 40 #[.string s, .string nm] w fun e w' => SaysM w (treeB ⟨[], []⟩ (within (L nm) (rdy (L s)))) e w' := by
  have h : decide ((65536 : Int) < (s.size : Int)) = false := decide_eq_false (by omega)
  have hsz := size_L s
  have hdl := Ch.len_dL (L s)
  have hrl := len_rdy (L s)
  have HT := Lib.hid hT
  clear hT
  go_enter Tryz.func40, Tryz.ntmps40
  go_wp2_with fail
  refine (readyW s w hs).mono ?_
  rintro e w1 ⟨rfl, b1⟩
  have hT1 := HT.out.below b1
  have HB1 := Lib.hid b1
  clear b1
  go_wp2_with fail
  refine (To.In_any (B (rdy (L s))) nm w1 (by rw [size_B]; omega) hn hT1).mono ?_
  rintro e w2 ⟨V, l, rfl, ho, hl, b2⟩
  rw [L_B] at hl
  obtain ⟨A, c, rfl, hc, _, _, hr⟩ := ho.form
  have hwb := Tm.bulk_within (L nm) (rdy (L s))
  have hl' : tks l = within (L nm) (rdy (L s)) := hl
  have hll : l.length ≤ 700000 := by rw [← To.len_tks, hl']; omega
  have hds : dsum (tks l) ≤ 1000000000 := by
    have := dsum_bulk (tks l)
    rw [hl'] at this ⊢
    omega
  have hat : ∀ x ∈ l, x.tk.attrs.length ≤ 1000000 := fun x hx => by
    have h1 := Tm.bulk_mem (l := tks l) (t := x.tk) (List.mem_map.2 ⟨x, hx, rfl⟩)
    rw [hl'] at h1
    unfold bulkT at h1
    omega
  have HL := Lib.hid hl'; have HR := Lib.hid hr; have HB2 := Lib.hid (bt HB1.out b2)
  clear hl hl' hr ho b2 hwb hT1 hdl hrl hsz hwl
  go_wp2_with fail
  refine (Tree_any A c l w2 HR.out hc hll hds hat).mono ?_
  intro e w3 h3
  rw [HL.out] at h3
  rcases h3.cases with ⟨ht, rfl, b3⟩ | ⟨o, v, y, ht, rfl, how, hfr, hros, hmi, b3⟩
  · have HTR := Lib.hid ht
    clear ht h3
    go_wp2
    go_ret2
    rw [HTR.out]
    exact ⟨rfl, bt HB2.out b3⟩
  · have HTR := Lib.hid ht; have HO := Lib.hid how; have HRO := Lib.hid hros; have HB3 := Lib.hid (bt HB2.out b3)
    clear ht h3 how hfr hros b3
    go_wp2
    go_ret2
    rw [HTR.out]
    exact ⟨⟨v, y, rfl, HO.out.rv (by rw [HRO.out]; exact tree_held HTR.out), HRO.out, hmi⟩, HB3.out⟩

end Go.Proofs.YtgjlfcamgkeibaaGreatDoor.Bu

namespace Go.Proofs.YtgjlfcamgkeibaaGreatDoor.Se
set_option maxRecDepth 100000
set_option linter.unusedVariables false
set_option linter.unusedSimpArgs false
open Go.RowKit Ba Ro
open Wr (rb insideB rsum)
open Bu (SaysM rdy)
open Re (Tab)
theorem rsum_le {l : List Ro} {n : Nat} (h : ∀ x ∈ l, rb x ≤ n) : rsum l ≤ l.length * n := by
  unfold rsum
  induction l with
  | nil => simp
  | cons x r ih =>
    have h1 := h x List.mem_cons_self
    have h2 := ih fun y hy => h y (List.mem_cons_of_mem _ hy)
    rw [List.map_cons, List.sum_cons, List.length_cons, Nat.succ_mul]
    omega
theorem Fit.wide {l : List Ro} (h : Fit l) (i : Int) : (insideB l i).length ≤ 200000000000 := by
  have h1 := Wm.len_inside l i
  have h2 := rsum_le h.row
  have h3 := Nat.mul_le_mul_right 7000000 h.len
  have h4 := h.len
  omega
set_option maxRecDepth 100000 in
set_option maxHeartbeats 400000 in
theorem inBig (s nm : ByteArray) (w : World) (hs : 65536 < s.size) (hz : s.size ≤ 140737488355328) :
    Calls Tryz.prog 40 #[.string s, .string nm] w fun e w' => e = .returned (.tuple #[.slice none 0 0, .int .i64 2]) ∧ Below w.heap.size w w' := by
  have h : decide ((65536 : Int) < (s.size : Int)) = true := decide_eq_true (by omega)
  go_enter Tryz.func40, Tryz.ntmps40
  go_wp2
  go_ret2
  exact ⟨rfl, Below.refl _ _⟩
set_option maxRecDepth 100000 in
set_option maxHeartbeats 400000 in
theorem parseM (s : ByteArray) (w : World) (r : Option (List Ro)) (hs : s.size ≤ 65536) (hT : Tab w) (hwl : (Tm.within [] (rdy (L s))).length ≤ 700000) (hr : Bm.treeB ⟨[], []⟩ (Tm.within [] (rdy (L s))) = r) :
    Calls Tryz.prog 21 #[.string s] w fun e w' => SaysM w r e w' := by
  have HC := Lib.hid (Bu.InW_any s ⟨#[]⟩ w hs (by decide) hT hwl)
  have e0 : Bm.treeB ⟨[], []⟩ (Tm.within (L ⟨#[]⟩) (rdy (L s))) = r := hr
  rw [e0] at HC
  clear hr e0
  go_enter Tryz.func21, Tryz.ntmps21
  go_wp2_with fail
  refine HC.out.mono ?_
  intro e w1 h1
  cases r with
  | none =>
    obtain ⟨rfl, b1⟩ := h1
    go_wp2
    go_ret2
    exact ⟨rfl, b1⟩
  | some o =>
    obtain ⟨⟨v, y, rfl, hv, hy, hm⟩, b1⟩ := h1
    have HV := Lib.hid hv; have HY := Lib.hid hy; have HM := Lib.hid hm
    clear hv hy hwl hm HC
    go_wp2
    go_ret2
    exact ⟨⟨v, y, rfl, HV.out, HY.out, HM.out⟩, b1⟩
set_option maxRecDepth 100000 in
set_option maxHeartbeats 400000 in
theorem parse14 (s : ByteArray) (w : World) (r : Option (List Ro)) (hs : s.size ≤ 200000000000) (hT : Tab w) (hr : par (L s) = r) :
    Calls Tryz.prog 21 #[.string s] w fun e w' => SaysM w r e w' := by
  unfold par at hr
  rw [size_L] at hr
  by_cases h : 65536 < s.size
  · rw [if_pos h] at hr
    subst hr
    go_enter Tryz.func21, Tryz.ntmps21
    go_wp2_with fail
    refine (inBig s _ w h (by omega)).mono ?_
    rintro e w1 ⟨rfl, hb⟩
    go_wp2
    go_ret2
    exact ⟨rfl, hb⟩
  · rw [if_neg h] at hr
    have hlr := Bu.len_rdy (L s)
    have hwl := Tm.within_len [] (rdy (L s))
    rw [size_L] at hlr
    exact parseM s w r (by omega) hT (by omega) hr
theorem write14 (v : Value) (x : List Cw) (w : World) (h : Rv w v x) (hf : Fit (ros x)) (q : ByteArray) (hq : B (insideB (ros x) (-1)) = q) :
    Calls Tryz.prog 22 #[v] w fun e w' => e = .returned (.string q) ∧ Below w.heap.size w w' := by
  obtain ⟨A, c, rfl, hc, hm, hrr, hh⟩ := h
  subst hq
  have hl := hf.len
  rw [len_ros] at hl
  exact Wr.Rows_any A c x w hrr hc (by omega) (fun y hy => Nat.le_trans (hf.row y.ro (List.mem_map_of_mem hy)) (by omega)) (Nat.le_trans (hf.wide (-1)) (by omega))
set_option maxRecDepth 100000 in
set_option maxHeartbeats 400000 in
theorem again14 (v : Value) (x : List Cw) (w : World) (h : Rv w v x) (hf : Fit (ros x)) (hT : Tab w) (r : Option (List Ro)) (hr : par (insideB (ros x) (-1)) = r) :
    Calls Tryz.prog 38 #[v] w fun e w' => SaysM w r e w' := by
  obtain ⟨S, hS⟩ : ∃ S, B (insideB (ros x) (-1)) = S := ⟨_, rfl⟩
  have hLS : insideB (ros x) (-1) = L S := by rw [← hS, L_B]
  have hw := hf.wide (-1)
  rw [hLS, size_L] at hw
  rw [hLS] at hr
  have HT := Lib.hid hT; have HR := Lib.hid hr; have HW := Lib.hid hw; have HC := Lib.hid (write14 v x w h hf S hS)
  clear hT hr hw hLS hS h hf
  go_enter Tryz.func38, Tryz.ntmps38
  go_wp2_with fail
  refine HC.out.mono ?_
  rintro e w1 ⟨rfl, b1⟩
  have HB1 := Lib.hid b1; clear b1
  go_wp2_with fail
  refine (parse14 S w1 r HW.out (HT.out.below HB1.out) HR.out).mono ?_
  intro e w2 h2
  cases r with
  | none =>
    obtain ⟨rfl, b2⟩ := h2
    go_wp2
    go_ret2
    exact ⟨rfl, bt HB1.out b2⟩
  | some o =>
    obtain ⟨⟨u, y, rfl, hv, hy, hm⟩, b2⟩ := h2
    have HV := Lib.hid hv; have HY := Lib.hid hy; have HB2 := Lib.hid (bt HB1.out b2); have HM := Lib.hid hm
    clear hv hy hm b2 HR
    go_wp2
    go_ret2
    exact ⟨⟨u, y, rfl, HV.out, HY.out, HM.out⟩, HB2.out⟩
set_option maxRecDepth 100000 in
set_option maxHeartbeats 400000 in
theorem stable14 (v : Value) (x : List Cw) (w : World) (h : Rv w v x) (hf : Fit (ros x)) (hT : Tab w) (q : Bool) (hq : stableB (ros x) = q) :
    Calls Tryz.prog 17 #[v] w fun e w' => e = .returned (.bool q) ∧ Below w.heap.size w w' := by
  obtain ⟨r, hr⟩ : ∃ r, par (insideB (ros x) (-1)) = r := ⟨_, rfl⟩
  unfold stableB at hq
  rw [hr] at hq
  have hl := hf.len
  rw [len_ros] at hl
  have HV := Lib.hid h; have HQ := Lib.hid hq; have HC := Lib.hid (again14 v x w h hf hT r hr); have HR := Lib.hid hr
  clear h hq hf hT hr
  go_enter Tryz.func17, Tryz.ntmps17
  go_wp2_with fail
  refine HC.out.mono ?_
  intro e w1 h1
  cases r with
  | none =>
    obtain ⟨rfl, b1⟩ := h1
    have HB := Lib.hid b1
    clear HC b1
    go_wp2
    go_ret
    exact ⟨by rw [← HQ.out]; rfl, HB.out⟩
  | some o =>
    obtain ⟨⟨u, y, rfl, hv, hy, -⟩, b1⟩ := h1
    have hof := (par_fit HR.out).len
    rw [← hy, len_ros] at hof
    have hqq : decide (ros y = ros x) = q := by rw [← HQ.out, hy]; simp
    have HS := Lib.hid (same1 u v y x w1 q hv (HV.out.below b1) (by omega) (by omega) hqq); have HB1 := Lib.hid b1
    clear hv hy b1 HC hqq
    go_wp2_with fail
    refine HS.out.mono ?_
    rintro e w2 ⟨rfl, b2⟩
    go_wp2
    go_ret
    exact ⟨rfl, bt HB1.out b2⟩

end Go.Proofs.YtgjlfcamgkeibaaGreatDoor.Se

namespace Go.Proofs.YtgjlfcamgkeibaaGreatDoor.Co
set_option maxRecDepth 100000
set_option linter.unusedVariables false
set_option linter.unusedSimpArgs false
open Go.RowKit Ba Fm Fo Nm Rk
structure Pw where
  pe : Pe
  A : Option Addr
  c : Nat
def pcells (x : Pw) : List Value := [.string x.pe.el, .slice x.A x.pe.at_.length x.c]
theorem len_pcells (x : Pw) : (pcells x).length = 2 := rfl
abbrev perV (x : Pw) : Value := .agg #[.string x.pe.el, .slice x.A x.pe.at_.length x.c]
def pes (l : List Pw) : List Pe := l.map Pw.pe
theorem len_pes (l : List Pw) : (pes l).length = l.length := List.length_map _
theorem pes_take (l : List Pw) (k : Nat) : (pes l).take k = pes (l.take k) := by simp [pes, List.map_take]
def Sx (w : World) (N : Nat) (x : Pw) : Prop := Sv w N (.slice x.A x.pe.at_.length x.c) x.pe.at_
def Pr (w : World) (N : Nat) (A : Option Addr) (l : List Pw) : Prop :=
  (0 < l.length → ∃ b off, A = some ⟨b, off, none⟩ ∧ b < N ∧ ∀ j (h : j < l.length), w.rangeAt b (off + j * 2) (pcells l[j])) ∧ ∀ x ∈ l, Sx w N x
def Pv (w : World) (N : Nat) (v : Value) (l : List Pw) : Prop := ∃ A c, v = .slice A l.length c ∧ l.length ≤ c ∧ (A = none → c = 0) ∧ Pr w N A l

theorem range_keep12 {w w' : World} {b o : Nat} {cs : List Value} (h : w.rangeAt b o cs) (hk : ∀ o, w'.cell? ⟨b, o, none⟩ = w.cell? ⟨b, o, none⟩) : w'.rangeAt b o cs := fun j v hv => (hk _).trans (h j v hv)
theorem Sx.below {w w' : World} {N M : Nat} {x : Pw} (h : Sx w N x) (hb : Below M w w') (hN : N ≤ M := by exact Nat.le_refl _) : Sx w' N x := Sv.below h hb hN
theorem Sx.more {w : World} {N M : Nat} {x : Pw} (h : Sx w N x) (hN : N ≤ M) : Sx w M x := Sv.more h hN
theorem Pr.below {w w' : World} {N M : Nat} {A : Option Addr} {l : List Pw} (h : Pr w N A l) (hb : Below M w w') (hN : N ≤ M := by exact Nat.le_refl _) : Pr w' N A l :=
  ⟨fun h0 => by
    obtain ⟨b, off, e, hbN, hc⟩ := h.1 h0
    exact ⟨b, off, e, hbN, fun j hj => range_keep12 (hc j hj) fun o => hb.cell (p := ⟨b, o, none⟩) (show b < M by omega)⟩, fun x hx => (h.2 x hx).below hb hN⟩
theorem Pr.more {w : World} {N M : Nat} {A : Option Addr} {l : List Pw} (h : Pr w N A l) (hN : N ≤ M) : Pr w M A l :=
  ⟨fun h0 => by
    obtain ⟨b, off, e, hb, hc⟩ := h.1 h0
    exact ⟨b, off, e, by omega, hc⟩, fun x hx => (h.2 x hx).more hN⟩
theorem Pr.nil (w : World) (N : Nat) (A : Option Addr) : Pr w N A [] := ⟨fun h => absurd h (by simp), fun _ h => by simp at h⟩
theorem Pv.below {w w' : World} {N M : Nat} {v : Value} {l : List Pw} (h : Pv w N v l) (hb : Below M w w') (hN : N ≤ M := by exact Nat.le_refl _) : Pv w' N v l := by
  obtain ⟨A, c, h1, h2, h3, h4⟩ := h
  exact ⟨A, c, h1, h2, h3, h4.below hb hN⟩
theorem Pv.more {w : World} {N M : Nat} {v : Value} {l : List Pw} (h : Pv w N v l) (hN : N ≤ M) : Pv w M v l := by
  obtain ⟨A, c, h1, h2, h3, h4⟩ := h
  exact ⟨A, c, h1, h2, h3, h4.more hN⟩
theorem Pr.at_ {w : World} {N : Nat} {A : Option Addr} {l : List Pw} (h : Pr w N A l) (k : Nat) (hk : k < l.length) :
    ∃ b off x, A = some ⟨b, off, none⟩ ∧ b < N ∧ l[k]? = some x ∧ w.rangeAt b (off + k * 2) [.string x.pe.el, .slice x.A x.pe.at_.length x.c] ∧ Sx w N x ∧ x ∈ l := by
  obtain ⟨b, off, e, hb, hc⟩ := h.1 (by omega)
  exact ⟨b, off, l[k], e, hb, List.getElem?_eq_getElem hk, hc k hk, h.2 _ (List.getElem_mem _), List.getElem_mem _⟩
theorem range2p {w : World} {b o : Nat} {v0 v1 : Value} (h : w.rangeAt b o [v0, v1]) : w.cell? ⟨b, o, none⟩ = some v0 ∧ w.cell? ⟨b, o + 1, none⟩ = some v1 := ⟨h 0 _ rfl, h 1 _ rfl⟩

/-! ### A configuration -/
abbrev confV (c : Cf) (vE vR vA vP : Value) : Value := .agg #[.bool c.allow, .bool c.attrsAllow, vE, vR, vA, vP, .bool c.comments, .bool c.dataAttrs]
abbrev confO (c : Cf) (vE vR vA vP : Value) : Obj := .cells #[.bool c.allow, .bool c.attrsAllow, vE, vR, vA, vP, .bool c.comments, .bool c.dataAttrs] 26
theorem size_conf : (Tryz.prog.info? 26).map (·.size) = some 8 := by kernel_rfl
structure Cp (w : World) (N : Nat) (c : Cf) (vE vR vA vP : Value) (l : List Pw) : Prop where
  e : Sv w N vE c.els
  r : Sv w N vR c.reps
  a : Sv w N vA c.ats
  p : Pv w N vP l
  m : pes l = c.per
def Cv (w : World) (N : Nat) (v : Value) (c : Cf) : Prop := ∃ vE vR vA vP l, v = confV c vE vR vA vP ∧ Cp w N c vE vR vA vP l
theorem Cp.below {w w' : World} {N M : Nat} {c : Cf} {vE vR vA vP : Value} {l : List Pw} (h : Cp w N c vE vR vA vP l) (hb : Below M w w') (hN : N ≤ M := by exact Nat.le_refl _) : Cp w' N c vE vR vA vP l := ⟨h.e.below hb hN, h.r.below hb hN, h.a.below hb hN, h.p.below hb hN, h.m⟩
theorem Cp.more {w : World} {N M : Nat} {c : Cf} {vE vR vA vP : Value} {l : List Pw} (h : Cp w N c vE vR vA vP l) (hN : N ≤ M) : Cp w M c vE vR vA vP l := ⟨h.e.more hN, h.r.more hN, h.a.more hN, h.p.more hN, h.m⟩
theorem Cp.on {w w' : World} {c : Cf} {vE vR vA vP : Value} {l : List Pw} (h : Cp w w.heap.size c vE vR vA vP l) (hb : Below w.heap.size w w') : Cp w' w'.heap.size c vE vR vA vP l := (h.below hb).more hb.size
theorem Cv.below {w w' : World} {N M : Nat} {v : Value} {c : Cf} (h : Cv w N v c) (hb : Below M w w') (hN : N ≤ M := by exact Nat.le_refl _) : Cv w' N v c := by
  obtain ⟨vE, vR, vA, vP, l, e, h⟩ := h
  exact ⟨vE, vR, vA, vP, l, e, h.below hb hN⟩
theorem Cv.more {w : World} {N M : Nat} {v : Value} {c : Cf} (h : Cv w N v c) (hN : N ≤ M) : Cv w M v c := by
  obtain ⟨vE, vR, vA, vP, l, e, h⟩ := h
  exact ⟨vE, vR, vA, vP, l, e, h.more hN⟩
theorem Cv.on {w w' : World} {v : Value} {c : Cf} (h : Cv w w.heap.size v c) (hb : Below w.heap.size w w') : Cv w' w'.heap.size v c := (h.below hb).more hb.size
theorem sv_on {w w' : World} {v : Value} {l : List ByteArray} (h : Sv w w.heap.size v l) (hb : Below w.heap.size w w') : Sv w' w'.heap.size v l := (Sv.below h hb (Nat.le_refl _)).more hb.size
theorem Pv.on {w w' : World} {v : Value} {l : List Pw} (h : Pv w w.heap.size v l) (hb : Below w.heap.size w w') : Pv w' w'.heap.size v l := (h.below hb).more hb.size
def Bx (w : World) (b : Nat) (c : Cf) (vE vR vA vP : Value) : Prop := w.rangeAt b 0 [.bool c.allow, .bool c.attrsAllow, vE, vR, vA, vP, .bool c.comments, .bool c.dataAttrs]
theorem Bx.new (w : World) (c : Cf) (vE vR vA vP : Value) : Bx (w.alloc (confO c vE vR vA vP)) w.heap.size c vE vR vA vP := fun j v hv => by
  rw [Nat.zero_add, World.cell?_alloc_mark]
  match j, hv with
  | 0, hv | 1, hv | 2, hv | 3, hv | 4, hv | 5, hv | 6, hv | 7, hv => exact hv
  | j + 8, hv => simp at hv
theorem Bx.below {w w' : World} {b M : Nat} {c : Cf} {vE vR vA vP : Value} (h : Bx w b c vE vR vA vP) (hb : Below M w w') (hM : b < M) : Bx w' b c vE vR vA vP := range_keep12 h fun o => hb.cell (p := ⟨b, o, none⟩) hM
theorem Bx.at_ {w : World} {b : Nat} {c : Cf} {vE vR vA vP : Value} (h : Bx w b c vE vR vA vP) :
    w.cell? ⟨b, 0, none⟩ = some (.bool c.allow) ∧ w.cell? ⟨b, 1, none⟩ = some (.bool c.attrsAllow) ∧ w.cell? ⟨b, 2, none⟩ = some vE ∧ w.cell? ⟨b, 3, none⟩ = some vR ∧ w.cell? ⟨b, 4, none⟩ = some vA ∧ w.cell? ⟨b, 5, none⟩ = some vP ∧ w.cell? ⟨b, 6, none⟩ = some (.bool c.comments) ∧ w.cell? ⟨b, 7, none⟩ = some (.bool c.dataAttrs) :=
  ⟨h 0 _ rfl, h 1 _ rfl, h 2 _ rfl, h 3 _ rfl, h 4 _ rfl, h 5 _ rfl, h 6 _ rfl, h 7 _ rfl⟩
theorem below_new12 (w : World) (o : Obj) : Below w.heap.size w (w.alloc o) := (Below.refl _ _).alloc (Nat.le_refl _) _
theorem bel_eq12 {w w1 w2 : World} {n : Nat} (h : Below n w w1) (he : w2.heap = w1.heap) (ho : w2.os = w1.os) (ht : w2.tape = w1.tape) (hp : w2.output = w1.output) : Below n w w2 := ⟨ho.trans h.os, ht.trans h.tape, hp.trans h.output, by rw [he]; exact h.size, fun b hb => by rw [he]; exact h.block b hb⟩
def Hb (w : World) (g : Nat) (cs : Array Value) : Prop := w.heap[g]? = some (.cells cs 26)
theorem gcell12 (w : World) (b j : Nat) (u : Value) : w.grownBy (w.setCell ⟨b, j, none⟩ u) (some b) :=
  ⟨rfl, rfl, rfl, by simp [World.setCell], fun k _ hk => Below.heap_setCell _ _ _ _ (fun e => hk (by simp [e]))⟩
theorem Hb.new (w : World) (cs : Array Value) : Hb (w.alloc (.cells cs 26)) w.heap.size cs := heap_alloc_new w _
theorem Hb.keep {w w' : World} {g : Nat} {cs : Array Value} (h : Hb w g cs) (hb : w'.heap[g]? = w.heap[g]?) : Hb w' g cs := hb.trans h
theorem Hb.lt {w : World} {g : Nat} {cs : Array Value} (h : Hb w g cs) : g < w.heap.size := (Array.getElem?_eq_some_iff.1 h).1
theorem Hb.below {w w' : World} {g M : Nat} {cs : Array Value} (h : Hb w g cs) (hb : Below M w w') (hM : g < M) : Hb w' g cs := h.keep (hb.block g hM)
theorem Hb.on {w w' : World} {g : Nat} {cs : Array Value} (h : Hb w g cs) (hb : Below w.heap.size w w') : Hb w' g cs := h.below hb h.lt
theorem Hb.set {w : World} {g : Nat} {cs : Array Value} (h : Hb w g cs) (j : Nat) (u : Value) (hj : j < cs.size := by simp) : Hb (w.setCell ⟨g, j, none⟩ u) g (cs.set j u hj) := by
  unfold Hb at h ⊢
  simp [World.setCell, Array.getElem?_modify, h, Array.setIfInBounds, hj]
theorem Hb.cell {w : World} {g : Nat} {cs : Array Value} (h : Hb w g cs) (j : Nat) (u : Value) (hu : cs[j]? = some u) : w.cell? ⟨g, j, none⟩ = some u := by
  rw [cell_of_row w g j _ _ _ h]
  exact hu
theorem Hb.f {w : World} {g : Nat} {cs : Array Value} (h : Hb w g cs) (j : Nat) : w.frozen? ⟨g, j, none⟩ = false := by
  unfold Hb at h
  simp [World.frozen?, h]
theorem Hb.range {w : World} {g : Nat} {cs : Array Value} (h : Hb w g cs) : w.rangeAt g 0 cs.toList := fun j u hu => by
  rw [Nat.zero_add]
  exact h.cell j u (by rwa [Array.getElem?_toList] at hu)
structure Sm (c : Cf) : Prop where
  e : c.els.length ≤ 1000
  r : c.reps.length ≤ 1000
  a : c.ats.length ≤ 1000
  p : c.per.length ≤ 1000
  pa : ∀ p ∈ c.per, p.at_.length ≤ 1000
  es : ∀ s ∈ c.els, s.size ≤ 140737488355328
  rs : ∀ s ∈ c.reps, s.size ≤ 140737488355328
  as_ : ∀ s ∈ c.ats, s.size ≤ 140737488355328
  ps : ∀ p ∈ c.per, p.el.size ≤ 140737488355328 ∧ ∀ s ∈ p.at_, s.size ≤ 140737488355328

end Go.Proofs.YtgjlfcamgkeibaaGreatDoor.Co
