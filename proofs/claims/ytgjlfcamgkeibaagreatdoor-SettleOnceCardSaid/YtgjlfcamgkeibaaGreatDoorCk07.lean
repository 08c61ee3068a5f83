/-
  Stage 7, in plain words: bytes of tags that close nothing, as tokens and as trees; nothing of the program.
  The tokens of any document are a good list; written, cut and written again they stay.
  Stage 8, in plain words: trees written, as bytes and as tokens; what is written is cut and built as it was. Nothing of the program.
  Walks of stage 5: names.among, the five lists (names.Void, Raw, Soft, Block, Gone), and the document's own lists.
  Walks of stage 8: appendAll, appendTag, holds, appendNode.
  Walks of stage 8: appendNode.
  Walks of stage 8: the closure that writes what a node has.
  Walks of stage 8: the closure that writes what a node has, walked.
  Walks of stage 8: Inside, Rows.
  Tokens of documents that are written out: the same functions by steps that are counted, so that they can be reckoned.
  Stage 7, in plain words: trees of given bytes, reckoned; nothing of the program.
-/
import Derived.Test.YtgjlfcamgkeibaaGreatDoorCk03
import Derived.Test.YtgjlfcamgkeibaaGreatDoorCk06
import Derived.Test.YtgjlfcamgkeibaaGreatDoorCk05
import Derived.Test.YtgjlfcamgkeibaaGreatDoorCk01
import Derived.Deep.CutBlock
import Derived.Deep.DeepCutAuto
import Derived.Deep.RegionHeld3
import Derived.Laws.EntriesVeiled
namespace Go.Proofs.YtgjlfcamgkeibaaGreatDoor.Bm
set_option linter.unusedVariables false
set_option linter.unusedSimpArgs false
open Ba Fm Rm Nm
open Ro (At Ro)
open Tm (Tk put cut txt tx nmOk softOr Clo begun mk startTag endTag begun_name start_back end_back cont_n cut_clo)
abbrev tagB (n : List UInt8) : Tk := ⟨1, B n, B [], [], false⟩
structure Free (n : List UInt8) : Prop where
  some : noName (B n) = false
  open_ : isIn (B n) voidL = false
  free : closesL (B n) = []
theorem step_k0 {st : St} {t : Tk} (h : t.kind = 0) : stepB st t = if t.data = ⟨#[]⟩ then st else ⟨st.stk, addText st.out st.stk.length t.data⟩ := by unfold stepB; rw [if_pos h]
theorem step_k1 {st : St} {t : Tk} (h : t.kind = 1) (hn : noName t.name = false) : stepB st t = ⟨if isIn t.name voidL = true then openedS t.name st.stk else t.name :: openedS t.name st.stk, st.out ++ [⟨(openedS t.name st.stk).length, 0, t.name, ⟨#[]⟩, once t.attrs⟩]⟩ := by
  unfold stepB
  rw [if_neg (by rw [h]; decide), if_neg (by rw [h]; decide), if_pos h, if_neg (by rw [hn]; simp)]
theorem step_k2 {st : St} {t : Tk} {r : List ByteArray} (h : t.kind = 2) (hn : noName t.name = false) (hv : isIn t.name voidL = false) (hf : findS [t.name] (endWalls t.name) st.stk = some r) : stepB st t = ⟨r, st.out⟩ := by
  unfold stepB
  rw [if_neg (by rw [h]; decide), if_neg (by rw [h]; decide), if_neg (by rw [h]; decide), if_pos h, if_neg (by rw [hn, hv]; simp), hf]
theorem step_begin {n : List UInt8} (h : Free n) (s : List ByteArray) (o : List Ro) : stepB ⟨s, o⟩ (tagB n) = ⟨B n :: s, o ++ [⟨s.length, 0, B n, ⟨#[]⟩, []⟩]⟩ := by
  rw [step_k1 (t := tagB n) rfl h.some]
  show (⟨if isIn (B n) voidL = true then openedS (B n) s else B n :: openedS (B n) s, o ++ [⟨(openedS (B n) s).length, 0, B n, ⟨#[]⟩, once []⟩]⟩ : St) = _
  rw [opened_free h.free, if_neg (by rw [h.open_]; simp)]
  rfl
theorem step_text {d : List UInt8} (hd : d ≠ []) (s : List ByteArray) (o : List Ro) (ho : ∀ y, o.getLast? = some y → y.kind ≠ 1 ∨ y.depth ≠ s.length) : stepB ⟨s, o⟩ (tx d) = ⟨s, o ++ [⟨s.length, 1, ⟨#[]⟩, B d, []⟩]⟩ := by
  rw [step_k0 (t := tx d) rfl]
  show (if B d = ⟨#[]⟩ then _ else (⟨s, addText o s.length (B d)⟩ : St)) = _
  rw [if_neg (fun e => hd (by have := congrArg L e; rwa [L_B] at this))]
  unfold addText
  cases hy : o.getLast? with
  | none => rfl
  | some y =>
    show (⟨s, if y.kind = 1 ∧ y.depth = (s.length : Int) then _ else _⟩ : St) = _
    rw [if_neg (fun hc => (ho y hy).elim (fun e => e hc.1) (fun e => e hc.2))]

theorem deep {n : List UInt8} (h : Free n) : ∀ (m k : Nat) (o : List Ro), o.length = k → k ≤ 60 →
    (k + m ≤ 60 → ∃ o', treeB ⟨List.replicate k (B n), o⟩ (List.replicate m (tagB n)) = some o' ∧ o'.length = k + m) ∧
    (60 < k + m → treeB ⟨List.replicate k (B n), o⟩ (List.replicate m (tagB n)) = none)
  | 0, k, o, ho, hk => ⟨fun _ => ⟨o, rfl, by omega⟩, fun c => by omega⟩
  | m + 1, k, o, ho, hk => by
    have hs := step_begin h (List.replicate k (B n)) o
    have hb : tooBig (o ++ [⟨k, 0, B n, ⟨#[]⟩, []⟩]) = decide (60 ≤ k) := by
      unfold tooBig
      rw [List.getLast?_append, List.length_append, ho]
      show (decide (4096 < k + 1) || decide ((60 : Int) ≤ k)) = _
      rw [decide_eq_false (by omega), Bool.false_or]
      by_cases h6 : 60 ≤ k
      · rw [decide_eq_true h6, decide_eq_true (by omega)]
      · rw [decide_eq_false h6, decide_eq_false (by omega)]
    rw [List.length_replicate] at hs
    rw [List.replicate_succ, treeB, hs]
    show _ ∧ (_ → (if tooBig (o ++ [⟨k, 0, B n, ⟨#[]⟩, []⟩]) = true then none else _) = none)
    rw [hb]
    by_cases h6 : 60 ≤ k
    · refine ⟨fun c => by omega, fun _ => by rw [if_pos (decide_eq_true h6)]⟩
    · obtain ⟨a, b⟩ := deep h m (k + 1) (o ++ [⟨k, 0, B n, ⟨#[]⟩, []⟩]) (by rw [List.length_append, ho]; rfl) (by omega)
      rw [if_neg (by rw [decide_eq_false h6]; simp)]
      refine ⟨fun c => ?_, fun c => b (by omega)⟩
      obtain ⟨o', e, l⟩ := a (by omega)
      exact ⟨o', e, by omega⟩
end Go.Proofs.YtgjlfcamgkeibaaGreatDoor.Bm

namespace Go.Proofs.YtgjlfcamgkeibaaGreatDoor.Tm
set_option linter.unusedVariables false
set_option linter.unusedSimpArgs false
open Ba Fm Rm Nm
open Ro (At)
theorem low_en {c : UInt8} (h : en c = false) : en (low c) = false := by
  obtain ⟨h1, h2, h3⟩ := en_no h
  by_cases hu : 65 ≤ c ∧ c ≤ 90
  · have e1 := UInt8.le_iff_toNat_le.1 hu.1
    have e2 := UInt8.le_iff_toNat_le.1 hu.2
    have e65 : (65 : UInt8).toNat = 65 := rfl
    have e90 : (90 : UInt8).toNat = 90 := rfl
    have hl : (low c).toNat = c.toNat + 32 := by
      unfold low
      rw [if_pos hu, UInt8.toNat_add]
      simp
      omega
    have ne : ∀ k : UInt8, k.toNat < 97 → (low c == k) = false := fun k hk => by
      rw [beq_eq_false_iff_ne]
      intro e
      rw [e] at hl
      omega
    unfold en ev sp
    rw [ne 32 (by decide), ne 9 (by decide), ne 10 (by decide), ne 12 (by decide), ne 13 (by decide), ne 62 (by decide), ne 47 (by decide)]
    rfl
  · have hl : low c = c := by unfold low; rw [if_neg hu]
    rw [hl]; exact h
theorem low_ea {c : UInt8} (h : ea c = false) : ea (low c) = false := by
  unfold ea at h ⊢
  rw [Bool.or_eq_false_iff] at h ⊢
  refine ⟨?_, low_en h.2⟩
  by_cases hu : 65 ≤ c ∧ c ≤ 90
  · have e1 := UInt8.le_iff_toNat_le.1 hu.1
    have e2 := UInt8.le_iff_toNat_le.1 hu.2
    have e65 : (65 : UInt8).toNat = 65 := rfl
    have e90 : (90 : UInt8).toNat = 90 := rfl
    have hl : (low c).toNat = c.toNat + 32 := by
      unfold low
      rw [if_pos hu, UInt8.toNat_add]
      simp
      omega
    rw [beq_eq_false_iff_ne]
    intro e
    have : (low c).toNat = 61 := by rw [e]; rfl
    omega
  · have hl : low c = c := by unfold low; rw [if_neg hu]
    rw [hl]; exact h.1
theorem lr_low {c : UInt8} (h : lr c = true) : lr (low c) = true := by
  unfold lr at h ⊢
  have e65 : (65 : UInt8).toNat = 65 := rfl
  have e90 : (90 : UInt8).toNat = 90 := rfl
  have e97 : (97 : UInt8).toNat = 97 := rfl
  have e122 : (122 : UInt8).toNat = 122 := rfl
  by_cases hu : 65 ≤ c ∧ c ≤ 90
  · have e1 := UInt8.le_iff_toNat_le.1 hu.1
    have e2 := UInt8.le_iff_toNat_le.1 hu.2
    have hl : (low c).toNat = c.toNat + 32 := by
      unfold low
      rw [if_pos hu, UInt8.toNat_add]
      simp
      omega
    have a1 : decide (97 ≤ low c) = true := decide_eq_true (UInt8.le_iff_toNat_le.2 (by omega))
    have a2 : decide (low c ≤ 122) = true := decide_eq_true (UInt8.le_iff_toNat_le.2 (by omega))
    simp [a1, a2]
  · have hl : low c = c := by unfold low; rw [if_neg hu]
    rw [hl]; exact h
theorem nmOk_cut {l : List UInt8} (h : by1 lr l = true) : nmOk (lowL (upTo en l)) := by
  refine ⟨?_, fun c hc => ?_⟩
  · cases l with
    | nil => cases h
    | cons c r =>
      show by1 lr (lowL (lead (by1 en) (c :: r))) = true
      rw [lead_no (show by1 en (c :: r) = false from lr_no h)]
      exact lr_low h
  · unfold lowL at hc
    obtain ⟨x, hx, rfl⟩ := List.mem_map.1 hc
    exact ⟨low_en (lead_mem hx), low_low x⟩
theorem aOk_cut {c : UInt8} (r : List UInt8) (h1 : c ≠ 62) (h2 : c ≠ 47) (h3 : sp c = false) : aOk (attr c r).1 := by
  have hen : en c = false := by
    unfold en ev
    rw [beq_eq_false_iff_ne.2 h2, beq_eq_false_iff_ne.2 h1, h3]
    rfl
  obtain ⟨k1, k2, k3⟩ := en_no (low_en hen)
  refine ⟨low c, lowL (upTo ea r), ?_, k2, k1, k3, low_low c, fun x hx => ?_⟩
  · show L (B (lowL (c :: upTo ea r))) = _
    rw [L_B]; rfl
  · unfold lowL at hx
    obtain ⟨y, hy, rfl⟩ := List.mem_map.1 hx
    exact ⟨low_ea (lead_mem hy), low_low y⟩
theorem asOk_put {l : List At} {a : At} (h : asOk l) (ha : aOk a) : asOk (put l a) := by
  unfold put
  split
  · exact h
  · rename_i hk
    refine ⟨fun b hb => ?_, ?_⟩
    · rcases List.mem_append.1 hb with e | e
      · exact h.1 b e
      · rw [List.mem_singleton.1 e]; exact ha
    · rw [List.pairwise_append]
      refine ⟨h.2, List.pairwise_singleton _ _, fun b hb c hc e => ?_⟩
      rw [List.mem_singleton.1 hc] at e
      apply hk
      unfold known
      rw [List.any_eq_true]
      exact ⟨b, hb, decide_eq_true e⟩
theorem asOk_cut (l : List UInt8) : ∀ (self : Bool) (acc bs : List At) (sf : Bool) (r : List UInt8), asOk acc → attrs self acc l = some (bs, sf, r) → asOk bs := by
  induction hn : l.length using Nat.strongRecOn generalizing l with
  | ind n ih =>
    intro self acc bs sf r ha h
    subst hn
    cases l with
    | nil => rw [attrs_nil] at h; cases h
    | cons c q =>
      by_cases h1 : c = 62
      · subst h1
        rw [attrs_end] at h
        injection h with h
        injection h with h _
        rw [← h]; exact ha
      · by_cases h2 : c = 47 ∨ sp c = true
        · rw [attrs_skip _ _ _ h1 h2] at h
          exact ih q.length (by simp) q rfl _ _ _ _ _ ha h
        · rw [attrs_attr _ _ _ h1 h2] at h
          have hq := len_attr c q
          have hs : sp c = false := by
            cases e : sp c with
            | true => exact absurd (.inr e) h2
            | false => rfl
          exact ih (attr c q).2.length (by simp only [List.length_cons]; omega) _ rfl _ _ _ _ _ (asOk_put ha (aOk_cut q h1 (fun e => h2 (.inl e)) hs)) h
theorem asOk_nil : asOk [] := ⟨(fun a h => by cases h), List.Pairwise.nil⟩

theorem lead_not {p : List UInt8 → Bool} : ∀ {l q : List UInt8}, q ≠ [] → q <:+ lead p l → p (q ++ trail p l) = false
  | [], q, hq, hs => absurd (List.suffix_nil.1 hs) hq
  | c :: r, q, hq, hs => by
    cases hp : p (c :: r) with
    | true => rw [lead_yes hp] at hs; exact absurd (List.suffix_nil.1 hs) hq
    | false =>
      rw [lead_no hp] at hs
      rw [trail_no hp]
      rcases List.suffix_cons_iff.1 hs with e | e
      · rw [e, List.cons_append, lead_trail]; exact hp
      · exact lead_not hq e
theorem isEnd_over {n q X : List UInt8} (hn : (60 : UInt8) ∉ lowL n) (hq : q ≠ []) (hl : q.length ≤ 2 + n.length) : isEnd n (q ++ 60 :: X) = false := by
  match q, hq with
  | [a], _ =>
    unfold isEnd
    rw [show pre [60, 47] ([a] ++ 60 :: X) = false from by
      show pre [60, 47] (a :: 60 :: X) = false
      rw [pre_cons, pre_cons]
      simp]
    rfl
  | a :: b :: t, _ =>
    simp only [List.length_cons] at hl
    unfold isEnd
    by_cases ht : t.length = n.length
    · have hd : ((a :: b :: t) ++ 60 :: X).drop (2 + n.length) = 60 :: X := by
        rw [← ht, show 2 + t.length = (a :: b :: t).length from by simp only [List.length_cons]; omega, List.drop_left]
      rw [hd, show by1 en (60 :: X) = false from by show en 60 = false; decide, Bool.and_false]
    · have hlt : t.length < n.length := by omega
      have hne : decide (lowL ((((a :: b :: t) ++ 60 :: X).drop 2).take n.length) = lowL n) = false := by
        refine decide_eq_false fun e => hn ?_
        rw [← e]
        show (60 : UInt8) ∈ lowL ((t ++ 60 :: X).take n.length)
        rw [List.take_append]
        unfold lowL
        rw [List.mem_map]
        refine ⟨60, ?_, by decide⟩
        obtain ⟨m, hm⟩ : ∃ m, n.length - t.length = m + 1 := ⟨n.length - t.length - 1, by omega⟩
        rw [hm, List.take_succ_cons]
        exact List.mem_append_right _ List.mem_cons_self
      rw [hne, Bool.and_false, Bool.false_and]

theorem pre_far {t q X : List UInt8} (h : t.length ≤ q.length) : pre t (q ++ X) = pre t q := by
  unfold pre
  rw [List.take_append, show t.length - q.length = 0 from by omega, List.take_zero, List.append_nil]
theorem isEnd_far {n q X : List UInt8} (h : 2 + n.length < q.length) : isEnd n (q ++ X) = isEnd n q := by
  unfold isEnd
  rw [pre_far (t := [60, 47]) (by show 2 ≤ _; omega), List.drop_append, List.drop_append, show 2 - q.length = 0 from by omega, show 2 + n.length - q.length = 0 from by omega, List.drop_zero]
  rw [List.take_append, show n.length - (q.drop 2).length = 0 from by rw [List.length_drop]; omega, List.take_zero, List.append_nil]
  congr 1
  cases hq : q.drop (2 + n.length) with
  | nil =>
    have := congrArg List.length hq
    rw [List.length_drop] at this
    simp at this
    omega
  | cons a r => rfl
theorem isEnd_near {n q : List UInt8} (h : q.length ≤ 2 + n.length) : isEnd n q = false := by
  unfold isEnd
  rw [List.drop_eq_nil_of_le h]
  simp [by1]
theorem isEnd_own {n X : List UInt8} : isEnd n (60 :: 47 :: (n ++ 62 :: X)) = true := by
  unfold isEnd
  rw [pre_cons, pre_cons, pre_nil]
  have h1 : ((60 :: 47 :: (n ++ 62 :: X)).drop 2).take n.length = n := by
    show (n ++ 62 :: X).take n.length = n
    exact List.take_left
  have h2 : (60 :: 47 :: (n ++ 62 :: X)).drop (2 + n.length) = 62 :: X := by
    rw [Nat.add_comm]
    show (n ++ 62 :: X).drop n.length = _
    exact List.drop_left
  rw [h1, h2]
  simp [by1, en, ev]
def EndOf (n : List UInt8) (R : List Tk) : Prop := R = [] ∨ ∃ r, R = ⟨2, B n, B [], [], false⟩ :: r
theorem lr_of_low {c : UInt8} (h : lr (low c) = true) : lr c = true := by
  by_cases hu : 65 ≤ c ∧ c ≤ 90
  · unfold lr
    rw [decide_eq_true hu.1, decide_eq_true hu.2]; rfl
  · have hl : low c = c := by unfold low; rw [if_neg hu]
    rwa [hl] at h
theorem en_of_low {c : UInt8} (h : en (low c) = false) : en c = false := by
  by_cases hu : 65 ≤ c ∧ c ≤ 90
  · exact lr_no (by unfold lr; rw [decide_eq_true hu.1, decide_eq_true hu.2]; rfl)
  · have hl : low c = c := by unfold low; rw [if_neg hu]
    rwa [hl] at h
theorem end_cut {n Y : List UInt8} (hn : nmOk n) (h : isEnd n Y = true) : EndOf n (cut Y) := by
  have hnl := nm_low (fun c hc => (hn.2 c hc).2)
  unfold isEnd at h
  rw [Bool.and_eq_true, Bool.and_eq_true] at h
  obtain ⟨⟨h1, h2⟩, h3⟩ := h
  have h2 := of_decide_eq_true h2
  rw [hnl] at h2
  match Y, h1, h2, h3 with
  | [], h1, _, _ => rw [pre_none] at h1; cases h1
  | [a], h1, _, _ => rw [pre_cons, pre_none, Bool.and_false] at h1; cases h1
  | a :: b :: t, h1, h2, h3 =>
    rw [pre_cons, pre_cons, pre_nil, Bool.and_true, Bool.and_eq_true, decide_eq_true_iff, decide_eq_true_iff] at h1
    obtain ⟨rfl, rfl⟩ := h1
    have h2 : lowL (t.take n.length) = n := h2
    have h3 : by1 en (t.drop n.length) = true := by
      rw [Nat.add_comm] at h3
      exact h3
    have hall : ∀ c ∈ t.take n.length, en c = false := fun c hc => by
      apply en_of_low
      have : low c ∈ n := by rw [← h2]; exact List.mem_map_of_mem hc
      exact (hn.2 _ this).1
    have hut : upTo en t = t.take n.length ∧ from_ en t = t.drop n.length := by
      have e := List.take_append_drop n.length t
      cases hd : t.drop n.length with
      | nil => rw [hd] at h3; cases h3
      | cons c q =>
        rw [hd] at h3 e
        have := upTo_stop (q := en) (s := t.take n.length) (c := c) (r := q) hall h3
        rw [e] at this
        exact this
    have hb : begun (60 :: 47 :: t) = 2 := by
      rw [To.begun_two, if_pos rfl, if_neg (by decide), if_pos rfl]
      cases t with
      | nil =>
        rw [List.take_nil] at h2
        rw [← h2] at hn
        exact absurd hn.1 (by decide)
      | cons c q =>
        have hc : lr c = true := by
          cases n with
          | nil => exact absurd hn.1 (by decide)
          | cons a m =>
            rw [List.length_cons, List.take_succ_cons] at h2
            injection h2 with h2 _
            apply lr_of_low
            rw [h2]
            exact hn.1
        show (if lr c = true then 2 else if c = 62 then 3 else 6) = 2
        rw [if_pos hc]
    have hcut := cut_clo (e := []) (p := []) (r := 60 :: 47 :: t) clo_nil (by rw [hb]; decide)
    rw [List.nil_append, To.mk_2 hb] at hcut
    rw [hcut]
    show EndOf n ([] ++ ((endTag t).1 ++ cut (endTag t).2))
    cases ha : attrs false [] (from_ en t) with
    | none =>
      rw [(To.start_no ha).2]
      left
      show [] ++ ([] ++ cut []) = []
      rw [To.cut_nil]; rfl
    | some x =>
      obtain ⟨bs, sf, r⟩ := x
      rw [(To.start_yes ha).2, hut.1, h2]
      right
      exact ⟨cut r, rfl⟩
theorem EndOf.w {n : List UInt8} {R : List Tk} (h : EndOf n R) : (∀ raw, wAll raw R = wAll false R) ∧ (∀ d q, R ≠ tx d :: q) ∧ (wAll false R = [] ∨ ∃ X, wAll false R = 60 :: 47 :: (n ++ 62 :: X)) := by
  rcases h with rfl | ⟨r, rfl⟩
  · exact ⟨fun _ => rfl, fun d q e => (nomatch e), .inl rfl⟩
  · refine ⟨fun raw => by rw [wAll_cons, wAll_cons, w1_end, w1_end], fun d q e => ?_, .inr ⟨_, by rw [wAll_cons, w1_end]⟩⟩
    injection e with e _
    have := congrArg Tk.kind e
    exact absurd (show (2 : Int) = 0 from this) (by decide)
theorem raw_name {n : List UInt8} (h : softOr n = true) : (60 : UInt8) ∉ lowL n := by
  have hall : ∀ x ∈ rawL ++ softL, (60 : UInt8) ∉ lowL (L x) := by decide
  unfold softOr rawB softB at h
  rw [Bool.or_eq_true] at h
  have hm : B n ∈ rawL ++ softL := by
    rcases h with h | h
    · exact List.mem_append_left _ (isIn_of h)
    · exact List.mem_append_right _ (isIn_of h)
  have := hall _ hm
  rwa [L_B] at this
theorem raw_lead {n l : List UInt8} {R : List Tk} (hs : softOr n = true) (hR : EndOf n R) :
    lead (isEnd n) (lead (isEnd n) l ++ wAll false R) = lead (isEnd n) l ∧ trail (isEnd n) (lead (isEnd n) l ++ wAll false R) = wAll false R := by
  refine lead_to (fun q hq hsf => ?_) ?_
  · by_cases hl : 2 + n.length < q.length
    · have := lead_not (p := isEnd n) hq hsf
      rw [isEnd_far hl] at this ⊢
      exact this
    · rcases hR.w.2.2 with e | ⟨X, e⟩
      · rw [e, List.append_nil]; exact isEnd_near (by omega)
      · rw [e]; exact isEnd_over (raw_name hs) hq (by omega)
  · rcases hR.w.2.2 with e | ⟨X, e⟩
    · exact .inl e
    · exact .inr (by rw [e]; exact isEnd_own)
theorem soft_lead {n e : List UInt8} {R : List Tk} (he : (60 : UInt8) ∉ e) (hR : EndOf n R) :
    lead (isEnd n) (e ++ wAll false R) = e ∧ trail (isEnd n) (e ++ wAll false R) = wAll false R := by
  refine lead_to (fun q hq hsf => ?_) ?_
  · cases q with
    | nil => exact absurd rfl hq
    | cons c t =>
      have hc : c ≠ 60 := fun x => he (by rw [← x]; exact hsf.subset List.mem_cons_self)
      unfold isEnd
      rw [List.cons_append, pre_cons, decide_eq_false hc]
      rfl
  · rcases hR.w.2.2 with e' | ⟨X, e'⟩
    · exact .inl e'
    · exact .inr (by rw [e']; exact isEnd_own)

theorem cend_mem {l : List UInt8} (h : (62 : UInt8) ∉ l) : cend l = false := by
  have hp : ∀ t : List UInt8, (62 : UInt8) ∈ t → pre t l = false := fun t ht => by
    unfold pre
    refine decide_eq_false fun e => h ?_
    rw [← e] at ht
    exact List.mem_of_mem_take ht
  unfold cend
  rw [hp _ (by decide), hp _ (by decide)]
  rfl
theorem cend_app {q Y x : List UInt8} (hq : q ≠ []) (h : cend (q ++ Y) = false) : cend (q ++ ([45, 45, 62] ++ x)) = false := by
  obtain ⟨h1, h2⟩ := To.cend_no h
  unfold cend
  match q, hq, h1, h2 with
  | [a], _, _, _ => simp [pre_cons, pre_nil]
  | [a, b], _, _, _ => simp [pre_cons, pre_nil]
  | [a, b, c], _, h1, _ =>
    simp only [List.cons_append, List.nil_append, pre_cons, pre_nil, Bool.and_true] at h1 ⊢
    rw [h1]
    simp
  | a :: b :: c :: d :: r, _, h1, h2 =>
    simp only [List.cons_append, pre_cons, pre_nil, Bool.and_true] at h1 h2 ⊢
    rw [h1, h2]
    rfl
theorem comm_same {s : List UInt8} (h1 : ∀ x, pre [62] (s ++ ([45, 45, 62] ++ x)) = false) (h2 : ∀ x, pre [45, 62] (s ++ ([45, 45, 62] ++ x)) = false) (h3 : ∀ q, q ≠ [] → q <:+ s → ∃ Y, cend (q ++ Y) = false) (x : List UInt8) :
    comm (s ++ ([45, 45, 62] ++ x)) = (s, x) := by
  obtain ⟨l1, l2⟩ := lead_to (p := cend) (s := s) (r := [45, 45, 62] ++ x) (fun q hq hs => by
    obtain ⟨Y, hY⟩ := h3 q hq hs
    exact cend_app hq hY) (.inr (by
    show cend (45 :: 45 :: 62 :: x) = true
    unfold cend
    simp [pre_cons, pre_nil]))
  rw [To.comm_on (h1 x) (h2 x), l1, l2]
  have : pre [45, 45, 62] ([45, 45, 62] ++ x) = true := by
    show pre [45, 45, 62] (45 :: 45 :: 62 :: x) = true
    simp [pre_cons, pre_nil]
  rw [if_pos this]
  rfl
theorem comm_free {s : List UInt8} (h : (62 : UInt8) ∉ s) (x : List UInt8) : comm (s ++ ([45, 45, 62] ++ x)) = (s, x) := by
  refine comm_same (fun x => ?_) (fun x => ?_) (fun q _ hs => ⟨[], by rw [List.append_nil]; exact cend_mem fun e => h (hs.subset e)⟩) x
  · cases s with
    | nil => simp [pre_cons, pre_nil]
    | cons c q =>
      have hc : c ≠ 62 := fun e => h (by simp [e])
      simp [pre_cons, pre_nil, hc]
  · match s, h with
    | [], _ => simp [pre_cons, pre_nil]
    | [c], _ => simp [pre_cons, pre_nil]
    | c :: d :: q, h =>
      have hd : d ≠ 62 := fun e => h (by simp [e])
      simp [pre_cons, pre_nil, hd]
theorem comm_again (l x : List UInt8) : comm ((comm l).1 ++ ([45, 45, 62] ++ x)) = ((comm l).1, x) := by
  cases h1 : pre [62] l with
  | true => rw [To.comm_gt h1]; exact comm_free (s := []) (by simp) x
  | false =>
    cases h2 : pre [45, 62] l with
    | true => rw [To.comm_dash h1 h2]; exact comm_free (s := []) (by simp) x
    | false =>
      rw [To.comm_on h1 h2]
      have hl := lead_trail cend l
      show comm (lead cend l ++ ([45, 45, 62] ++ x)) = (lead cend l, x)
      refine comm_same (fun x => ?_) (fun x => ?_) (fun q hq hs => ⟨_, lead_not hq hs⟩) x
      · cases hd : lead cend l with
        | nil => simp [pre_cons, pre_nil]
        | cons c q =>
          rw [hd] at hl
          rw [← hl, List.cons_append, pre_cons, pre_nil, Bool.and_true] at h1
          rw [List.cons_append, pre_cons, pre_nil, Bool.and_true]
          exact h1
      · cases hd : lead cend l with
        | nil => simp [pre_cons, pre_nil]
        | cons c q =>
          cases q with
          | nil => simp [pre_cons, pre_nil]
          | cons d t =>
            rw [hd] at hl
            rw [← hl, List.cons_append, List.cons_append, pre_cons, pre_cons, pre_nil, Bool.and_true] at h2
            rw [List.cons_append, List.cons_append, pre_cons, pre_cons, pre_nil, Bool.and_true]
            exact h2

theorem not_gt (l : List UInt8) : (62 : UInt8) ∉ upTo gt l := fun h => by
  have := lead_mem (q := gt) h
  exact absurd this (by decide)
end Go.Proofs.YtgjlfcamgkeibaaGreatDoor.Tm

namespace Go.Proofs.YtgjlfcamgkeibaaGreatDoor.Wm
set_option linter.unusedVariables false
set_option linter.unusedSimpArgs false
open Ba Fm Rm Nm Bm
open Ro (At Ro)
open Tm (Tk tx txt fin wAll EndOf nmOk asOk softOr rawB softB isEnd lead trail comm)
theorem wA_eq : wA = Tm.wAttr := rfl
def tk (x : Ro) : Tk := if x.kind = 1 then ⟨0, ⟨#[]⟩, x.data, [], false⟩ else if x.kind = 2 then ⟨3, ⟨#[]⟩, x.data, [], false⟩ else ⟨1, x.name, ⟨#[]⟩, x.attrs, false⟩
def endT (x : Ro) : Tk := ⟨2, x.name, ⟨#[]⟩, [], false⟩
def toks : List Ro → List Tk
  | [] => []
  | x :: r => tk x :: ((if holds x = true then toks (inn x r) ++ [endT x] else []) ++ toks (beh x r))
  termination_by l => l.length
  decreasing_by
    · have := len_parts x r
      simp only [List.length_cons]; omega
    · have := len_parts x r
      simp only [List.length_cons]; omega
theorem toks_nil : toks [] = [] := by rw [toks]
theorem toks_cons (x : Ro) (r : List Ro) : toks (x :: r) = tk x :: ((if holds x = true then toks (inn x r) ++ [endT x] else []) ++ toks (beh x r)) := by rw [toks]

structure Fit (s : List ByteArray) (x : Ro) : Prop where
  at_ : x.depth = (s.length : Int)
  ok : Ro.okRow x = true
  el : x.kind = 0 → quiet x.name s ∧ isIn x.name goneL = false ∧ nmOk (L x.name) ∧ asOk x.attrs
  note : x.kind = 2 → ∀ t, comm (L x.data ++ ([45, 45, 62] ++ t)) = (L x.data, t)
  text : x.kind = 1 → x.data ≠ ⟨#[]⟩
def Alone (x : Ro) (k : List Ro) : Prop := k = [] ∨ ∃ y, k = [y] ∧ y.kind = 1 ∧ (rawB (L x.name) = true → lead (isEnd (L x.name)) (L y.data) = L y.data)
inductive Tr : List ByteArray → List Ro → Prop
  | nil (s : List ByteArray) : Tr s []
  | one (s : List ByteArray) (x : Ro) (r : List Ro) : Fit s x → (holds x = false → inn x r = []) → (holds x = true → Tr (x.name :: s) (inn x r)) → (holds x = true → softOr (L x.name) = true → Alone x (inn x r)) →
      (x.kind = 1 → ∀ y, (beh x r).head? = some y → y.kind ≠ 1) → Tr s (beh x r) → Tr s (x :: r)

theorem kinds {x : Ro} (h : Ro.okRow x = true) : x.kind = 0 ∨ x.kind = 1 ∨ x.kind = 2 := by
  unfold Ro.okRow at h
  by_cases h0 : x.kind = 0
  · exact .inl h0
  · rw [if_neg (by simpa using h0)] at h
    simp only [Bool.and_eq_true, Bool.or_eq_true, beq_iff_eq] at h
    exact .inr h.1.1
theorem void_plain {n : ByteArray} (h : isIn n voidL = true) : softOr (L n) = false ∧ isIn n rawL = false := by
  have hall : ∀ x ∈ voidL, softOr (L x) = false ∧ isIn x rawL = false := by decide
  exact hall n (isIn_of h)
theorem tk0 {x : Ro} (h : x.kind = 0) : tk x = ⟨1, x.name, ⟨#[]⟩, x.attrs, false⟩ := by unfold tk; rw [if_neg (by rw [h]; decide), if_neg (by rw [h]; decide)]
theorem tk1 {x : Ro} (h : x.kind = 1) : tk x = ⟨0, ⟨#[]⟩, x.data, [], false⟩ := by unfold tk; rw [if_pos h]
theorem tk2 {x : Ro} (h : x.kind = 2) : tk x = ⟨3, ⟨#[]⟩, x.data, [], false⟩ := by unfold tk; rw [if_neg (by rw [h]; decide), if_pos h]
theorem tk1' {x : Ro} (h : x.kind = 1) : tk x = tx (L x.data) := by rw [tk1 h]; unfold tx; rw [B_L]; rfl
theorem holds_kind {x : Ro} (h : holds x = true) : x.kind = 0 ∧ isIn x.name voidL = false := by
  unfold holds at h
  rw [Bool.and_eq_true, beq_iff_eq, Bool.not_eq_true'] at h
  exact h
theorem holds_no {x : Ro} (h : x.kind ≠ 0) : holds x = false := by
  unfold holds
  rw [beq_eq_false_iff_ne.2 h, Bool.false_and]
theorem holds_void {x : Ro} (h : x.kind = 0) (hh : holds x = false) : isIn x.name voidL = true := by
  unfold holds at hh
  rw [beq_iff_eq.2 h, Bool.true_and] at hh
  simpa using hh
theorem rawB_eq (n : ByteArray) : rawB (L n) = isIn n rawL := by unfold rawB; rw [B_L]

theorem wAll_toks {s : List ByteArray} {l : List Ro} (h : Tr s l) : ∀ (raw : Bool) (R : List Tk), (raw = true → l = [] ∨ ∃ y, l = [y] ∧ y.kind = 1) → wAll raw (toks l ++ R) = wr raw l ++ wAll (raw && l.isEmpty) R := by
  induction h with
  | nil s =>
    intro raw R _
    rw [toks_nil, wr_nil]
    simp
  | one s x r hf hn hk ha ht ho ihk iho =>
    intro raw R hraw
    rw [toks_cons, wr_cons, List.cons_append, Tm.wAll_cons]
    show _ = _ ++ wAll (raw && false) R
    rw [Bool.and_false]
    have hbeh : wAll false (toks (beh x r) ++ R) = wr raw (beh x r) ++ wAll false R := by
      cases raw with
      | false =>
        have := iho false R (fun e => by cases e)
        rwa [Bool.false_and] at this
      | true =>
        rcases hraw rfl with e | ⟨y, e, hy⟩
        · cases e
        · injection e with e1 e2
          subst e2
          have : beh x [] = [] := rfl
          rw [this, toks_nil, wr_nil]; rfl
    rcases kinds hf.ok with h0 | h1 | h2
    · have hnode : Tm.w1 raw (tk x) = node raw x := by
        rw [tk0 h0]
        unfold Tm.w1 node
        rw [if_neg (show (1 : Int) ≠ 0 by decide), if_pos rfl, if_pos h0]
        unfold Tm.wStart tagW
        rw [wA_eq]
        simp
      rw [hnode]
      have hrt : Tm.rawT (tk x) = isIn x.name rawL := by rw [tk0 h0]; rfl
      rw [hrt]
      cases hh : holds x with
      | true =>
        rw [if_pos rfl, if_pos rfl]
        have hal : isIn x.name rawL = true → inn x r = [] ∨ ∃ y, inn x r = [y] ∧ y.kind = 1 := fun e => by
          rcases ha hh (by unfold softOr; rw [rawB_eq, e]; rfl) with e | ⟨y, e, hy, _⟩
          · exact .inl e
          · exact .inr ⟨y, e, hy⟩
        have hk' := ihk hh (isIn x.name rawL) ((endT x) :: (toks (beh x r) ++ R)) hal
        have he : wAll (isIn x.name rawL && (inn x r).isEmpty) (endT x :: (toks (beh x r) ++ R)) = endW x ++ wAll false (toks (beh x r) ++ R) := rfl
        rw [he] at hk'
        simp only [List.append_assoc, List.cons_append, List.nil_append]
        rw [hk', hbeh]
      | false =>
        rw [if_neg (by simp), if_neg (by simp), (void_plain (holds_void h0 hh)).2, List.nil_append, List.nil_append, hbeh, List.append_assoc]
    · have hnode : Tm.w1 raw (tk x) = node raw x := by
        rw [tk1 h1]
        unfold Tm.w1 node
        rw [if_pos (show (0 : Int) = 0 from rfl), if_neg (show ¬ x.kind = 0 by rw [h1]; decide), if_pos h1]
      have hrt : Tm.rawT (tk x) = false := by rw [tk1 h1]; rfl
      rw [hnode, hrt, holds_no (by rw [h1]; decide), if_neg (by simp), if_neg (by simp), List.nil_append, List.nil_append, hbeh, List.append_assoc]
    · have hnode : Tm.w1 raw (tk x) = node raw x := by
        rw [tk2 h2]
        unfold Tm.w1 node
        rw [if_neg (show (3 : Int) ≠ 0 by decide), if_neg (show (3 : Int) ≠ 1 by decide), if_neg (show (3 : Int) ≠ 2 by decide), if_pos rfl, if_neg (by rw [h2]; decide), if_neg (by rw [h2]; decide), if_pos h2]
      have hrt : Tm.rawT (tk x) = false := by rw [tk2 h2]; rfl
      rw [hnode, hrt, holds_no (by rw [h2]; decide), if_neg (by simp), if_neg (by simp), List.nil_append, List.nil_append, hbeh, List.append_assoc]

theorem data_ne {x : Ro} (h : x.data ≠ ⟨#[]⟩) : L x.data ≠ [] := fun e => h (by rw [← B_L x.data, e]; rfl)
theorem good_toks {s : List ByteArray} {l : List Ro} (h : Tr s l) : ∀ R, Tm.Good R → Tm.Good (toks l ++ R) := by
  induction h with
  | nil s => intro R hR; rw [toks_nil]; exact hR
  | one s x r hf hn hk ha ht ho ihk iho =>
    intro R hR
    rw [toks_cons, List.cons_append]
    have hbeh := iho R hR
    rcases kinds hf.ok with h0 | h1 | h2
    · obtain ⟨hq, hg, hnm, has⟩ := hf.el h0
      rw [tk0 h0]
      have et : (⟨1, x.name, ⟨#[]⟩, x.attrs, false⟩ : Tk) = ⟨1, B (L x.name), B [], x.attrs, false⟩ := by rw [B_L]; rfl
      rw [et]
      cases hh : holds x with
      | false =>
        rw [if_neg (by simp), List.nil_append]
        exact .start _ _ _ _ hnm has (void_plain (holds_void h0 hh)).1 hbeh
      | true =>
        rw [if_pos rfl]
        have hend : Tm.Good (endT x :: (toks (beh x r) ++ R)) := by
          have : endT x = ⟨2, B (L x.name), B [], [], false⟩ := by unfold endT; rw [B_L]; rfl
          rw [this]
          exact .end_ _ _ hnm hbeh
        have hEO : EndOf (L x.name) (endT x :: (toks (beh x r) ++ R)) := .inr ⟨_, by unfold endT; rw [B_L]; rfl⟩
        simp only [List.append_assoc, List.cons_append, List.nil_append]
        cases hso : softOr (L x.name) with
        | false => exact .start _ _ _ _ hnm has hso (ihk hh _ hend)
        | true =>
          rcases ha hh hso with e | ⟨y, e, hy, hl⟩
          · rw [e, toks_nil, List.nil_append]
            obtain ⟨s1, s2⟩ := Tm.soft_lead (e := []) (by simp) hEO
            rw [List.nil_append] at s1 s2
            exact .none_ _ _ _ _ hnm has hso hEO.w.2.1 (hEO.w.1 true) s1 s2 hend
          · have hky := hk hh
            rw [e] at hky
            have hfy : Fit (x.name :: s) y := by
              cases hky with
              | one _ _ _ hf _ _ _ _ _ => exact hf
            have hdy := data_ne (hfy.text hy)
            have ety : toks [y] = [tx (L y.data)] := by
              rw [toks_cons, holds_no (by rw [hy]; decide), if_neg (by simp), show beh y [] = [] from rfl, toks_nil, tk1' hy]; rfl
            rw [e, ety, List.cons_append, List.nil_append]
            cases hrb : rawB (L x.name) with
            | true =>
              obtain ⟨s1, s2⟩ := Tm.raw_lead (l := L y.data) hso hEO
              rw [hl hrb] at s1 s2
              exact .raw _ _ _ _ _ hnm has hrb hdy s1 s2 hend
            | false =>
              have hsb : softB (L x.name) = true := by
                unfold softOr at hso
                rwa [hrb, Bool.false_or] at hso
              obtain ⟨s1, s2⟩ := Tm.soft_lead (e := esc false (L y.data)) (esc_free false _).1 hEO
              exact .soft _ _ _ _ _ hnm has hrb hsb hdy s1 s2 hend
    · rw [tk1' h1, holds_no (by rw [h1]; decide), if_neg (by simp), List.nil_append]
      exact .text _ _ (data_ne (hf.text h1)) hbeh
    · have et : tk x = ⟨3, B [], B (L x.data), [], false⟩ := by rw [tk2 h2, B_L]; rfl
      rw [et, holds_no (by rw [h2]; decide), if_neg (by simp), List.nil_append]
      exact .comment _ _ (hf.note h2) hbeh

def sep : List Tk → Prop
  | [] => True
  | t :: r => (t.kind = 0 → t = tx (L t.data) ∧ L t.data ≠ [] ∧ ∀ u, r.head? = some u → u.kind ≠ 0) ∧ sep r
theorem fin_sep : ∀ {T : List Tk}, sep T → (∀ b, fin b [] T = T) ∧ ∀ p, (∀ u, T.head? = some u → u.kind ≠ 0) → fin false p T = txt p ++ T
  | [], _ => ⟨fun b => rfl, fun p _ => by rw [List.append_nil]; rfl⟩
  | t :: r, h => by
    obtain ⟨i1, i2⟩ := fin_sep h.2
    by_cases hk : t.kind = 0
    · obtain ⟨e, hd, hr⟩ := h.1 hk
      refine ⟨fun b => ?_, fun p hp => absurd hk (hp t rfl)⟩
      cases b with
      | true => rw [Tm.fin_held hk, i1]
      | false => rw [Tm.fin_text hk, List.nil_append, i2 _ hr, Tm.txt_some hd, List.cons_append, List.nil_append, ← e]
    · refine ⟨fun b => ?_, fun p _ => ?_⟩
      · rw [Tm.fin_other hk, i1]; rfl
      · rw [Tm.fin_other hk, i1]
theorem sep_toks {s : List ByteArray} {l : List Ro} (h : Tr s l) : ∀ R, sep R → (∀ u, R.head? = some u → u.kind ≠ 0) → sep (toks l ++ R) := by
  induction h with
  | nil s => intro R hR _; rw [toks_nil]; exact hR
  | one s x r hf hn hk ha ht ho ihk iho =>
    intro R hR hR0
    rw [toks_cons, List.cons_append]
    have hbeh := iho R hR hR0
    by_cases h1 : x.kind = 1
    · rw [tk1' h1, holds_no (by rw [h1]; decide), if_neg (by simp), List.nil_append]
      refine ⟨fun _ => ⟨?_, ?_, fun u hu => ?_⟩, hbeh⟩
      · show tx (L x.data) = tx (L (B (L x.data))); rw [L_B]
      · show L (B (L x.data)) ≠ []; rw [L_B]; exact data_ne (hf.text h1)
      · cases hb : beh x r with
        | nil =>
          rw [hb, toks_nil, List.nil_append] at hu
          exact hR0 u hu
        | cons y q =>
          rw [hb, toks_cons, List.cons_append] at hu
          have hy := ht h1 y (by rw [hb]; rfl)
          have hu : some (tk y) = some u := hu
          injection hu with hu
          rw [← hu]
          unfold tk
          rw [if_neg hy]
          split
          · exact (by decide : (3 : Int) ≠ 0)
          · exact (by decide : (1 : Int) ≠ 0)
    · refine ⟨fun e => ?_, ?_⟩
      · exfalso
        unfold tk at e
        rw [if_neg h1] at e
        split at e
        · exact absurd e (by decide : (3 : Int) ≠ 0)
        · exact absurd e (by decide : (1 : Int) ≠ 0)
      · cases hh : holds x with
        | false => rw [if_neg (by simp), List.nil_append]; exact hbeh
        | true =>
          rw [if_pos rfl]
          simp only [List.append_assoc, List.cons_append, List.nil_append]
          refine ihk hh _ ⟨fun e => absurd e (by decide : (2 : Int) ≠ 0), hbeh⟩ (fun u hu => ?_)
          have hu : some (endT x) = some u := hu
          injection hu with hu
          rw [← hu]
          exact (by decide : (2 : Int) ≠ 0)

theorem cut_wr {s : List ByteArray} {l : List Ro} (h : Tr s l) : Tm.cut (wr false l) = toks l := by
  have h1 := Tm.good_cut (good_toks h [] .nil) [] [] Tm.clo_nil
  have h2 := wAll_toks h false [] (fun e => by cases e)
  rw [List.append_nil] at h1 h2
  rw [h2, List.nil_append] at h1
  have h3 := sep_toks h [] trivial (fun u hu => by cases hu)
  rw [List.append_nil] at h3
  rw [(fin_sep h3).1] at h1
  have : wAll (false && l.isEmpty) [] = [] := rfl
  rw [this, List.append_nil] at h1
  exact h1

theorem not_tooBig {o : List Ro} (h : small o) : ¬ tooBig o = true := not_big h.1 fun y hy => by have := h.2 y hy; omega
theorem small_left {a b : List Ro} (h : small (a ++ b)) : small a := ⟨by have := h.1; rw [List.length_append] at this; omega, fun y hy => h.2 y (List.mem_append_left _ hy)⟩
theorem raw_row {x : Ro} (h : Ro.okRow x = true) (hk : x.kind = 0) : x = ⟨x.depth, 0, x.name, ⟨#[]⟩, x.attrs⟩ ∧ x.name ≠ ⟨#[]⟩ := by
  unfold Ro.okRow at h
  rw [if_pos (by rw [hk]; rfl)] at h
  simp only [Bool.and_eq_true, Bool.not_eq_true'] at h
  obtain ⟨⟨h1, h2⟩, h3⟩ := h
  have hd := empty_name h2
  refine ⟨?_, fun e => ?_⟩
  · rcases x with ⟨d, k, n, t, a⟩
    simp only at hk hd
    subst hk hd
    rfl
  · rw [e] at h1
    exact absurd (show (⟨#[]⟩ : ByteArray).toList.isEmpty = true from nil_empty) (by rw [h1]; simp)
theorem note_row {x : Ro} (h : Ro.okRow x = true) (hk : x.kind = 2) : x = ⟨x.depth, 2, ⟨#[]⟩, x.data, []⟩ := by
  unfold Ro.okRow at h
  rw [if_neg (by rw [hk]; decide)] at h
  simp only [Bool.and_eq_true] at h
  obtain ⟨⟨_, h1⟩, h2⟩ := h
  have hn := empty_name h1
  have hl : x.attrs.length = 0 := by have := beq_iff_eq.1 h2; omega
  have ha := List.eq_nil_of_length_eq_zero hl
  rcases x with ⟨d, k, n, t, a⟩
  simp only at hk hn ha
  subst hk hn ha
  rfl
theorem once_same {l : List At} (h : asOk l) : once l = l := by
  have : ∀ (l acc : List At), (acc ++ l).Pairwise (fun a b => a.name ≠ b.name) → l.foldl Tm.put acc = acc ++ l := fun l => by
    induction l with
    | nil => intro acc _; rw [List.append_nil]; rfl
    | cons a r ih =>
      intro acc hp
      have hn : ∀ b ∈ acc, b.name ≠ a.name := fun b hb => (List.pairwise_append.1 hp).2.2 b hb a List.mem_cons_self
      show r.foldl Tm.put (Tm.put acc a) = _
      rw [Tm.put_new hn, ih (acc ++ [a]) (by rw [List.append_assoc]; exact hp), List.append_assoc]
      rfl
  have := this l [] h.2
  rwa [List.nil_append] at this

theorem tree_cons' (st : St) (t : Tk) (r : List Tk) : treeB st (t :: r) = if tooBig (stepB st t).out = true then none else treeB (stepB st t) r := rfl
theorem mem_tw {α : Type} (p : α → Bool) : ∀ (l : List α), ∀ x ∈ l.takeWhile p, p x = true
  | [], x, h => by cases h
  | a :: l, x, h => by
    rw [List.takeWhile_cons] at h
    split at h
    · rename_i ha
      rcases List.mem_cons.1 h with e | e
      · rw [e]; exact ha
      · exact mem_tw p l x e
    · cases h
theorem tree_toks {s : List ByteArray} {l : List Ro} (h : Tr s l) : ∀ (o : List Ro) (R : List Tk), small (o ++ l) →
    (∀ y z, o.getLast? = some y → l.head? = some z → z.kind = 1 → y.kind ≠ 1 ∨ y.depth ≠ s.length) → treeB ⟨s, o⟩ (toks l ++ R) = treeB ⟨s, o ++ l⟩ R := by
  induction h with
  | nil s => intro o R _ _; rw [toks_nil, List.append_nil]; rfl
  | one s x r hf hn hk ha ht ho ihk iho =>
    intro o R hsm hlast
    rw [toks_cons, List.cons_append]
    have hr := inn_beh x r
    have hsm' : small ((o ++ [x]) ++ (inn x r ++ beh x r)) := by rw [hr, List.append_assoc]; exact hsm
    have hsx : small (o ++ [x]) := small_left hsm'
    have hbx : tooBig (o ++ [x]) ≠ true := not_tooBig hsx
    have hdeep : ∀ y ∈ inn x r, y.depth ≠ (s.length : Int) := fun y hy => by
      have h1 := mem_tw _ _ y hy
      unfold deep at h1
      rw [decide_eq_true_iff, hf.at_] at h1
      omega
    have hfin : (o ++ [x]) ++ inn x r ++ beh x r = o ++ x :: r := by rw [List.append_assoc, hr, List.append_assoc]; rfl
    have hnext : ∀ (hx1 : x.kind = 1 → inn x r = []), ∀ y z, ((o ++ [x]) ++ inn x r).getLast? = some y → (beh x r).head? = some z → z.kind = 1 → y.kind ≠ 1 ∨ y.depth ≠ s.length := fun hx1 y z hy hz hzk => by
      cases hi : (inn x r).getLast? with
      | none =>
        rw [List.getLast?_eq_none_iff] at hi
        rw [hi, List.append_nil, List.getLast?_append] at hy
        have hy : some x = some y := by simpa using hy
        injection hy with hy
        subst hy
        by_cases h1 : x.kind = 1
        · exact absurd hzk (ht h1 z hz)
        · exact .inl h1
      | some w =>
        rw [List.getLast?_append, hi] at hy
        have hy : some w = some y := by simpa using hy
        injection hy with hy
        subst hy
        exact .inr (hdeep w (List.mem_of_getLast? hi))
    rcases kinds hf.ok with h0 | h1 | h2
    · obtain ⟨hq, hg, hnm, has⟩ := hf.el h0
      obtain ⟨hrow, hne⟩ := raw_row hf.ok h0
      have hnn : noName x.name = false := by
        unfold noName
        rw [decide_eq_false hne, hg]; rfl
      have hstep : stepB ⟨s, o⟩ (tk x) = ⟨if isIn x.name voidL = true then s else x.name :: s, o ++ [x]⟩ := by
        rw [tk0 h0, step_k1 rfl hnn, quiet_same hq]
        show (⟨_, o ++ [⟨(s.length : Int), 0, x.name, ⟨#[]⟩, once x.attrs⟩]⟩ : St) = _
        rw [once_same has, ← hf.at_, ← hrow]
      rw [tree_cons', hstep, if_neg hbx]
      cases hh : holds x with
      | false =>
        rw [if_pos (holds_void h0 hh), if_neg (by simp), List.nil_append]
        have hi := hn hh
        have := iho (o ++ [x]) R (by rw [hi] at hsm'; exact hsm') (by have := hnext (fun _ => hi); rwa [hi, List.append_nil] at this)
        rw [this]
        rw [hi, List.append_nil] at hfin
        rw [hfin]
      | true =>
        obtain ⟨_, hv⟩ := holds_kind hh
        rw [if_neg (by rw [hv]; simp), if_pos rfl]
        simp only [List.append_assoc, List.cons_append, List.nil_append]
        have hx1 : x.kind = 1 → inn x r = [] := fun e => by rw [h0] at e; cases e
        have hin := ihk hh (o ++ [x]) (endT x :: (toks (beh x r) ++ R)) (by rw [← List.append_assoc] at hsm'; exact small_left hsm') (fun y z hy _ _ => by
          rw [List.getLast?_append] at hy
          have hy : some x = some y := by simpa using hy
          injection hy with hy
          subst hy
          exact .inl (by rw [h0]; decide))
        rw [show o ++ [x] = o ++ x :: [] from rfl] at hin
        rw [hin, tree_cons']
        have hend : stepB ⟨x.name :: s, o ++ [x] ++ inn x r⟩ (endT x) = ⟨s, o ++ [x] ++ inn x r⟩ := step_k2 rfl hnn hv (findS_hit s (isIn_yes List.mem_cons_self))
        rw [hend]
        have hbi : tooBig (o ++ [x] ++ inn x r) ≠ true := not_tooBig (by rw [← List.append_assoc] at hsm'; exact small_left hsm')
        rw [if_neg hbi]
        have := iho (o ++ [x] ++ inn x r) R (by rw [← List.append_assoc] at hsm'; exact hsm') (hnext hx1)
        rw [this, hfin]
    · have hh := holds_no (show x.kind ≠ 0 by rw [h1]; decide)
      have hi := hn hh
      rw [hh, if_neg (by simp), List.nil_append]
      have hstep : stepB ⟨s, o⟩ (tk x) = ⟨s, o ++ [x]⟩ := by
        rw [tk1' h1, step_text (data_ne (hf.text h1)) s o (fun y hy => hlast y x hy rfl h1)]
        have := text_row hf.ok h1
        rw [B_L, ← hf.at_]
        exact congrArg (fun z => (⟨s, o ++ [z]⟩ : St)) this.symm
      rw [tree_cons', hstep, if_neg hbx]
      have := iho (o ++ [x]) R (by rw [hi] at hsm'; exact hsm') (by have := hnext (fun _ => hi); rwa [hi, List.append_nil] at this)
      rw [this]
      rw [hi, List.append_nil] at hfin
      rw [hfin]
    · have hh := holds_no (show x.kind ≠ 0 by rw [h2]; decide)
      have hi := hn hh
      rw [hh, if_neg (by simp), List.nil_append]
      have hstep : stepB ⟨s, o⟩ (tk x) = ⟨s, o ++ [x]⟩ := by
        rw [tk2 h2]
        unfold stepB
        rw [if_neg (show (3 : Int) ≠ 0 by decide), if_pos rfl]
        have := note_row hf.ok h2
        rw [← hf.at_]
        exact congrArg (fun z => (⟨s, o ++ [z]⟩ : St)) this.symm
      rw [tree_cons', hstep, if_neg hbx]
      have := iho (o ++ [x]) R (by rw [hi] at hsm'; exact hsm') (by have := hnext (fun _ => hi); rwa [hi, List.append_nil] at this)
      rw [this]
      rw [hi, List.append_nil] at hfin
      rw [hfin]

theorem back {l : List Ro} (h : Tr [] l) (hs : small l) : treeB ⟨[], []⟩ (Tm.cut (wr false l)) = some l := by
  rw [cut_wr h]
  have := tree_toks h [] [] hs (fun y z hy _ _ => by cases hy)
  rw [List.append_nil, List.nil_append] at this
  rw [this]; rfl

end Go.Proofs.YtgjlfcamgkeibaaGreatDoor.Wm

namespace Go.Proofs.YtgjlfcamgkeibaaGreatDoor.Na
set_option maxRecDepth 100000
set_option linter.unusedSimpArgs false
set_option linter.unusedVariables false
open Go.RowKit Ba Fm Fo Nm
theorem void_lit (w : World) (s : ByteArray) :
    Calls Tryz.prog 127 #[.string s, .slice (some ⟨w.heap.size, 0, none⟩) 14 14] (w.alloc (.cells #[.string ⟨#[97, 114, 101, 97]⟩, .string ⟨#[98, 97, 115, 101]⟩, .string ⟨#[98, 114]⟩, .string ⟨#[99, 111, 108]⟩, .string ⟨#[101, 109, 98, 101, 100]⟩, .string ⟨#[104, 114]⟩, .string ⟨#[105, 109, 103]⟩, .string ⟨#[105, 110, 112, 117, 116]⟩, .string ⟨#[108, 105, 110, 107]⟩, .string ⟨#[109, 101, 116, 97]⟩, .string ⟨#[112, 97, 114, 97, 109]⟩, .string ⟨#[115, 111, 117, 114, 99, 101]⟩, .string ⟨#[116, 114, 97, 99, 107]⟩, .string ⟨#[119, 98, 114]⟩] 9)) fun e w' => e = .returned (.bool (isIn s voidL)) ∧ w.alloc (.cells #[.string ⟨#[97, 114, 101, 97]⟩, .string ⟨#[98, 97, 115, 101]⟩, .string ⟨#[98, 114]⟩, .string ⟨#[99, 111, 108]⟩, .string ⟨#[101, 109, 98, 101, 100]⟩, .string ⟨#[104, 114]⟩, .string ⟨#[105, 109, 103]⟩, .string ⟨#[105, 110, 112, 117, 116]⟩, .string ⟨#[108, 105, 110, 107]⟩, .string ⟨#[109, 101, 116, 97]⟩, .string ⟨#[112, 97, 114, 97, 109]⟩, .string ⟨#[115, 111, 117, 114, 99, 101]⟩, .string ⟨#[116, 114, 97, 99, 107]⟩, .string ⟨#[119, 98, 114]⟩] 9) = w' := amongLit w voidL s (by decide)
set_option maxHeartbeats 1000000 in
theorem void_any (s : ByteArray) (w : World) : Calls Tryz.prog 126 #[.string s] w fun e w' => e = .returned (.bool (isIn s voidL)) ∧ Below w.heap.size w w' := by
  go_enter Tryz.func126, Tryz.ntmps126
  go_wp2_with fail
  refine (void_lit w s).mono ?_
  rintro e w1 ⟨rfl, rfl⟩
  go_wp2
  go_ret
  exact ⟨rfl, below_one w _⟩
theorem block_lit (w : World) (s : ByteArray) :
    Calls Tryz.prog 127 #[.string s, .slice (some ⟨w.heap.size, 0, none⟩) 38 38] (w.alloc (.cells #[.string ⟨#[97, 100, 100, 114, 101, 115, 115]⟩, .string ⟨#[97, 114, 116, 105, 99, 108, 101]⟩, .string ⟨#[97, 115, 105, 100, 101]⟩, .string ⟨#[98, 108, 111, 99, 107, 113, 117, 111, 116, 101]⟩, .string ⟨#[99, 101, 110, 116, 101, 114]⟩, .string ⟨#[100, 100]⟩, .string ⟨#[100, 101, 116, 97, 105, 108, 115]⟩, .string ⟨#[100, 105, 97, 108, 111, 103]⟩, .string ⟨#[100, 105, 114]⟩, .string ⟨#[100, 105, 118]⟩, .string ⟨#[100, 108]⟩, .string ⟨#[100, 116]⟩, .string ⟨#[102, 105, 101, 108, 100, 115, 101, 116]⟩, .string ⟨#[102, 105, 103, 99, 97, 112, 116, 105, 111, 110]⟩, .string ⟨#[102, 105, 103, 117, 114, 101]⟩, .string ⟨#[102, 111, 111, 116, 101, 114]⟩, .string ⟨#[102, 111, 114, 109]⟩, .string ⟨#[104, 49]⟩, .string ⟨#[104, 50]⟩, .string ⟨#[104, 51]⟩, .string ⟨#[104, 52]⟩, .string ⟨#[104, 53]⟩, .string ⟨#[104, 54]⟩, .string ⟨#[104, 101, 97, 100, 101, 114]⟩, .string ⟨#[104, 103, 114, 111, 117, 112]⟩, .string ⟨#[104, 114]⟩, .string ⟨#[108, 105]⟩, .string ⟨#[109, 97, 105, 110]⟩, .string ⟨#[109, 101, 110, 117]⟩, .string ⟨#[110, 97, 118]⟩, .string ⟨#[111, 108]⟩, .string ⟨#[112]⟩, .string ⟨#[112, 114, 101]⟩, .string ⟨#[115, 101, 99, 116, 105, 111, 110]⟩, .string ⟨#[115, 117, 109, 109, 97, 114, 121]⟩, .string ⟨#[116, 97, 98, 108, 101]⟩, .string ⟨#[117, 108]⟩, .string ⟨#[120, 109, 112]⟩] 9)) fun e w' => e = .returned (.bool (isIn s blockL)) ∧ w.alloc (.cells #[.string ⟨#[97, 100, 100, 114, 101, 115, 115]⟩, .string ⟨#[97, 114, 116, 105, 99, 108, 101]⟩, .string ⟨#[97, 115, 105, 100, 101]⟩, .string ⟨#[98, 108, 111, 99, 107, 113, 117, 111, 116, 101]⟩, .string ⟨#[99, 101, 110, 116, 101, 114]⟩, .string ⟨#[100, 100]⟩, .string ⟨#[100, 101, 116, 97, 105, 108, 115]⟩, .string ⟨#[100, 105, 97, 108, 111, 103]⟩, .string ⟨#[100, 105, 114]⟩, .string ⟨#[100, 105, 118]⟩, .string ⟨#[100, 108]⟩, .string ⟨#[100, 116]⟩, .string ⟨#[102, 105, 101, 108, 100, 115, 101, 116]⟩, .string ⟨#[102, 105, 103, 99, 97, 112, 116, 105, 111, 110]⟩, .string ⟨#[102, 105, 103, 117, 114, 101]⟩, .string ⟨#[102, 111, 111, 116, 101, 114]⟩, .string ⟨#[102, 111, 114, 109]⟩, .string ⟨#[104, 49]⟩, .string ⟨#[104, 50]⟩, .string ⟨#[104, 51]⟩, .string ⟨#[104, 52]⟩, .string ⟨#[104, 53]⟩, .string ⟨#[104, 54]⟩, .string ⟨#[104, 101, 97, 100, 101, 114]⟩, .string ⟨#[104, 103, 114, 111, 117, 112]⟩, .string ⟨#[104, 114]⟩, .string ⟨#[108, 105]⟩, .string ⟨#[109, 97, 105, 110]⟩, .string ⟨#[109, 101, 110, 117]⟩, .string ⟨#[110, 97, 118]⟩, .string ⟨#[111, 108]⟩, .string ⟨#[112]⟩, .string ⟨#[112, 114, 101]⟩, .string ⟨#[115, 101, 99, 116, 105, 111, 110]⟩, .string ⟨#[115, 117, 109, 109, 97, 114, 121]⟩, .string ⟨#[116, 97, 98, 108, 101]⟩, .string ⟨#[117, 108]⟩, .string ⟨#[120, 109, 112]⟩] 9) = w' := amongLit w blockL s (by decide)
set_option maxHeartbeats 1000000 in
theorem block_any (s : ByteArray) (w : World) : Calls Tryz.prog 258 #[.string s] w fun e w' => e = .returned (.bool (isIn s blockL)) ∧ Below w.heap.size w w' := by
  go_enter Tryz.func258, Tryz.ntmps258
  go_wp2_with fail
  refine (block_lit w s).mono ?_
  rintro e w1 ⟨rfl, rfl⟩
  go_wp2
  go_ret
  exact ⟨rfl, below_one w _⟩
theorem gone_lit (w : World) (s : ByteArray) :
    Calls Tryz.prog 127 #[.string s, .slice (some ⟨w.heap.size, 0, none⟩) 4 4] (w.alloc (.cells #[.string ⟨#[98, 111, 100, 121]⟩, .string ⟨#[102, 114, 97, 109, 101, 115, 101, 116]⟩, .string ⟨#[104, 101, 97, 100]⟩, .string ⟨#[104, 116, 109, 108]⟩] 9)) fun e w' => e = .returned (.bool (isIn s goneL)) ∧ w.alloc (.cells #[.string ⟨#[98, 111, 100, 121]⟩, .string ⟨#[102, 114, 97, 109, 101, 115, 101, 116]⟩, .string ⟨#[104, 101, 97, 100]⟩, .string ⟨#[104, 116, 109, 108]⟩] 9) = w' := amongLit w goneL s (by decide)
set_option maxHeartbeats 1000000 in
theorem gone_any (s : ByteArray) (w : World) : Calls Tryz.prog 232 #[.string s] w fun e w' => e = .returned (.bool (isIn s goneL)) ∧ Below w.heap.size w w' := by
  go_enter Tryz.func232, Tryz.ntmps232
  go_wp2_with fail
  refine (gone_lit w s).mono ?_
  rintro e w1 ⟨rfl, rfl⟩
  go_wp2
  go_ret
  exact ⟨rfl, below_one w _⟩
end Go.Proofs.YtgjlfcamgkeibaaGreatDoor.Na

namespace Go.Proofs.YtgjlfcamgkeibaaGreatDoor.Wr
set_option maxRecDepth 100000
set_option linter.unusedSimpArgs false
set_option linter.unusedVariables false
open Go.RowKit Ba Fm Fo Nm Wm
open Ro (At Ro Cw ros rowO rowV acells len_acells below_new Sh Ra acells_one info_attr range2 range5)
open Tm (bulkA)
open To (Kb Ls Bx app_strk flat2 flat3 flat5 flat_le flat_take bulk_at)
open Rm (dec esc)
theorem app_bytek {ops : Array Oper} {rest : List Oper} {o : Oper} {a : Act} {Q : Exit → Act → World → Prop} (w : World) (hgd : o.guard = none) (s x : Operand)
    (ho : o.op = .call { callee := .builtin .append, args := #[s, x], argTypes := #[88, 88] })
    (N : Nat) (v : Value) (l : List UInt8) (y : UInt8) (hs : a.eval s = v) (hown : OwnB N w v l) (hx : a.eval x = .slice (some ⟨w.heap.size, 0, none⟩) 1 1)
    (hl : l.length + 1 ≤ 140737488355328) (hN : N ≤ w.heap.size)
    (h : ∀ v' w', OwnB N w' v' (l ++ [y]) → Below N w w' → Kb w w' → wpList Tryz.prog ops Q rest (a.put o.dst v') w') :
    wpList Tryz.prog ops Q (o :: rest) a (w.alloc (.cells #[.int .u8 y.toNat] 5)) := by
  obtain ⟨i0, hi, hz0, hz1, hz2⟩ := info_parts info_u8
  have hown' : OwnB N (w.alloc (.cells #[.int .u8 y.toNat] 5)) v l := hown.alloc _
  have hsz : (w.alloc (.cells #[.int .u8 y.toNat] 5)).heap.size = w.heap.size + 1 := by simp
  refine wpList_append_own _ hgd s x 88 ho N 5 i0 (.int .u8 0) 1 1 Tryz.underlying88 hi hz0 hz1 hz2 rfl (by decide) v l.length (l.map bc) hs hown' ⟨w.heap.size, 0, none⟩ 1 1 [.int .u8 y.toNat] hx rfl (cell_one_new _ _ _) (by intro u hu; simp at hu; subst hu; rfl) (by unfold maxLen; omega) (by omega) (by omega) ?_
  intro v' w' ho2 hg2 _
  exact h v' w' (OwnB.appended (m := [y]) ho2 rfl) (hown'.below hg2 ((Below.refl N w).alloc hN _) (by omega)) ((Kb.below (below_new w _)).trans (Kb.grown hown' hg2))

def Rb (w : World) (g : Nat) (x : Cw) : Prop := w.heap[g]? = some (rowO x)
theorem Rb.new (w : World) (x : Cw) : Rb (w.alloc (rowO x)) w.heap.size x := (MapKept.heap_alloc w _).1
theorem Rb.c {w : World} {g : Nat} {x : Cw} (h : Rb w g x) : w.cell? ⟨g, 0, none⟩ = some (.int .i64 x.ro.depth) ∧ w.cell? ⟨g, 1, none⟩ = some (.int .i64 x.ro.kind) ∧ w.cell? ⟨g, 2, none⟩ = some (.string x.ro.name) ∧ w.cell? ⟨g, 3, none⟩ = some (.string x.ro.data) ∧ w.cell? ⟨g, 4, none⟩ = some (.slice x.A x.ro.attrs.length x.c) := by
  refine ⟨?_, ?_, ?_, ?_, ?_⟩
  · rw [cell_of_row w g 0 _ _ _ h]; rfl
  · rw [cell_of_row w g 1 _ _ _ h]; rfl
  · rw [cell_of_row w g 2 _ _ _ h]; rfl
  · rw [cell_of_row w g 3 _ _ _ h]; rfl
  · rw [cell_of_row w g 4 _ _ _ h]; rfl
theorem Rb.kb {w w' : World} {g : Nat} {x : Cw} (h : Rb w g x) (k : Kb w w') : Rb w' g x := (k.2 g _ _ _ h (by decide)).trans h
theorem Rb.lt {w : World} {g : Nat} {x : Cw} (h : Rb w g x) : g < w.heap.size := (Array.getElem?_eq_some_iff.1 h).1
theorem kb_alloc (w : World) (o : Obj) : Kb w (w.alloc o) := Kb.below (below_new w o)
theorem bx_kb {w w' : World} {g : Nat} {x y : ByteArray} (h : Bx w g x y) (k : Kb w w') : Bx w' g x y := (k.2 g _ _ _ h (by decide)).trans h

set_option maxRecDepth 100000 in
set_option maxHeartbeats 2000000 in
theorem appendAll_any (N g c : Nat) (v : Value) (acc : List UInt8) (l : List ByteArray) (w : World) (ho : OwnB N w v acc) (hN : N ≤ w.heap.size) (hg : Ls w g l) (hl : l.length ≤ 100) (hz : acc.length + (l.flatMap L).length ≤ 140737488355328) :
    Calls Tryz.prog 82 #[v, .slice (some ⟨g, 0, none⟩) l.length c] w fun e w' => ∃ v', e = .returned v' ∧ OwnB N w' v' (acc ++ l.flatMap L) ∧ Below N w w' ∧ Kb w w' := by
  go_enter Tryz.func82, Tryz.ntmps82
  go_wp2
  go_loopw [0, 9] (fun u i wr => ∃ k : Nat, i = .int .i64 k ∧ k ≤ l.length ∧ OwnB N wr u (acc ++ (l.take k).flatMap L) ∧ Below N w wr ∧ Kb w wr) (fun _ i _ => l.length - (intOf i).toNat)
  case atStart => exact ⟨0, rfl, Nat.zero_le _, by simpa using ho, Below.refl _ _, Kb.refl _⟩
  case round =>
    obtain ⟨k, rfl, hk, hown, hb, hkb⟩ := hrel
    by_cases hp : k < l.length
    · have hcell := (hg.kb hkb).cell k hp
      have hle := flat_le l k hp
      have hft := flat_take l k hp
      have hlen : (acc ++ (l.take k).flatMap L).length + l[k].size ≤ 140737488355328 := by rw [List.length_append]; omega
      have hNr : N ≤ wr.heap.size := Nat.le_trans hN hb.size
      have HO := Lib.hid hown; have HB := Lib.hid hb; have HK := Lib.hid hkb; have HF := Lib.hid hft; clear hown hb hkb hft hle
      go_wp2_with (at_builtin; refine app_strk wr rfl (.tmp 13) (.tmp 14) rfl N _ _ l[k] rfl HO.out rfl hlen hNr ?_; intro v4 w4 hown4 hb4 hk4)
      go_roundw
      case rel => exact ⟨k + 1, by go_num, by omega, by rw [HF.out, ← List.append_assoc]; exact hown4, HB.out.trans hb4, HK.out.trans hk4⟩
      case measure => simp [intOf]; omega
    · rw [List.take_of_length_le (by omega)] at hown
      have HO := Lib.hid hown; have HB := Lib.hid hb; have HK := Lib.hid hkb; clear hown hb hkb
      go_wp2
      go_ret
      exact ⟨_, rfl, HO.out, HB.out, HK.out⟩
theorem appendAll1 (N g c n : Nat) (v : Value) (acc out : List UInt8) (l : List ByteArray) (w : World) (ho : OwnB N w v acc) (hN : N ≤ w.heap.size) (hg : Ls w g l) (hl : l.length ≤ 100) (hz : acc.length + (l.flatMap L).length ≤ 140737488355328) (hn : l.length = n) (hout : l.flatMap L = out) :
    Calls Tryz.prog 82 #[v, .slice (some ⟨g, 0, none⟩) n c] w fun e w' => ∃ v', e = .returned v' ∧ OwnB N w' v' (acc ++ out) ∧ Below N w w' ∧ Kb w w' := by
  subst hn hout
  exact appendAll_any N g c v acc l w ho hN hg hl hz
theorem lit_app3 (N : Nat) (u : Value) (AC : List UInt8) (t1 t2 t3 : ByteArray) (wr : World) (ho : OwnB N wr u AC) (hN : N ≤ wr.heap.size) (hlen : AC.length + (t1.size + (t2.size + t3.size)) ≤ 140737488355328) :
    Calls Tryz.prog 82 #[u, .slice (some ⟨wr.heap.size, 0, none⟩) 3 3] (wr.alloc (.cells #[.string t1, .string t2, .string t3] 9)) fun e w' => ∃ v', e = .returned v' ∧ OwnB N w' v' (AC ++ (L t1 ++ (L t2 ++ L t3))) ∧ Below N wr w' ∧ Kb wr w' := by
  refine (appendAll1 N wr.heap.size 3 3 u AC (L t1 ++ (L t2 ++ L t3)) [t1, t2, t3] _ (ho.alloc _) (by simp; omega) (Ls.new wr [t1, t2, t3]) (by simp) (by rw [flat3, List.length_append, List.length_append, size_L, size_L, size_L]; exact hlen) rfl (flat3 _ _ _)).mono ?_
  rintro e w6 ⟨v6, he, ho6, hb6, hk6⟩
  exact ⟨v6, he, ho6, ((Below.refl N wr).alloc hN _).trans hb6, (kb_alloc wr _).trans hk6⟩
theorem attr_app (N : Nat) (u : Value) (AC : List UInt8) (y : At) (wr w4 : World) (ho : OwnB N wr u AC) (hN : N ≤ wr.heap.size)
    (hb : Below (wr.alloc (.cells #[.string y.name, .string y.value] 51)).drew.heap.size (wr.alloc (.cells #[.string y.name, .string y.value] 51)).drew w4) (hlen : AC.length + (wA y).length ≤ 140737488355328) :
    Calls Tryz.prog 82 #[u, .slice (some ⟨w4.heap.size, 0, none⟩) 5 5] (w4.alloc (.cells #[.string ⟨#[32]⟩, .string y.name, .string ⟨#[61, 34]⟩, .string (B (esc true (L y.value))), .string ⟨#[34]⟩] 9)) fun e w' => ∃ v', e = .returned v' ∧ OwnB N w' v' (AC ++ wA y) ∧ Below N wr w' ∧ Kb wr w' ∧ Bx w' wr.heap.size y.name y.value := by
  have hx4 := (show Bx (wr.alloc (.cells #[.string y.name, .string y.value] 51)).drew wr.heap.size y.name y.value from Bx.new wr y.name y.value).below hb
  have hb4 : Below wr.heap.size wr w4 := bt (below_new wr _) ⟨hb.os, hb.tape, hb.output, hb.size, hb.block⟩
  have hn4 : N ≤ w4.heap.size := Nat.le_trans hN hb4.size
  have hls := Ls.new w4 [⟨#[32]⟩, y.name, ⟨#[61, 34]⟩, B (esc true (L y.value)), ⟨#[34]⟩]
  have hfl : [⟨#[32]⟩, y.name, ⟨#[61, 34]⟩, B (esc true (L y.value)), ⟨#[34]⟩].flatMap L = wA y := by
    rw [flat5, L_B]; rfl
  refine (appendAll1 N w4.heap.size 5 5 u AC (wA y) [⟨#[32]⟩, y.name, ⟨#[61, 34]⟩, B (esc true (L y.value)), ⟨#[34]⟩] _ ((OwnB.keep ho hb4).alloc _) (by simp; omega) hls (by simp) (by rw [hfl]; exact hlen) rfl hfl).mono ?_
  rintro e w6 ⟨v6, he, ho6, hb6, hk6⟩
  refine ⟨v6, he, ho6, (hb4.mono hN).trans (((Below.refl N w4).alloc hn4 _).trans hb6), (Kb.below hb4).trans ((kb_alloc w4 _).trans hk6), bx_kb (hx4.below (below_new w4 _)) hk6⟩

def rb (x : Ro) : Nat := x.name.size + x.data.size + bulkA x.attrs + x.attrs.length
theorem sum_le (l : List At) (k : Nat) (h : k < l.length) : ((l.take k).flatMap wA).length + (wA l[k]).length ≤ (l.flatMap wA).length := by
  have e : l.flatMap wA = (l.take (k + 1)).flatMap wA ++ (l.drop (k + 1)).flatMap wA := by rw [← List.flatMap_append, List.take_append_drop]
  rw [e, List.take_succ_eq_append_getElem h, List.flatMap_append, List.length_append, List.length_append]
  simp
theorem attr_take (l : List At) (k : Nat) (h : k < l.length) : (l.take (k + 1)).flatMap wA = (l.take k).flatMap wA ++ wA l[k] := by
  rw [List.take_succ_eq_append_getElem h, List.flatMap_append]
  simp
theorem len_wAs (l : List At) : (l.flatMap wA).length ≤ 6 * bulkA l + 4 * l.length := Tm.len_wAttrs l

set_option maxRecDepth 100000 in
set_option maxHeartbeats 4000000 in
theorem appendTag_any (N M : Nat) (v : Value) (acc : List UInt8) (x : Cw) (w : World) (ho : OwnB N w v acc) (hN : N ≤ w.heap.size) (hx : Ro.Att w M x) (hM : M ≤ N) (hk : rb x.ro ≤ 10000000) (hz : acc.length ≤ 70000000000000) :
    Calls Tryz.prog 128 #[v, rowV x] w fun e w' => ∃ v', e = .returned v' ∧ OwnB N w' v' (acc ++ tagW x.ro) ∧ Below N w w' ∧ Kb w w' := by
  have hk1 : x.ro.name.size ≤ 10000000 := by unfold rb at hk; omega
  have hk2 : bulkA x.ro.attrs ≤ 10000000 := by unfold rb at hk; omega
  have hk3 : x.ro.attrs.length ≤ 10000000 := by unfold rb at hk; omega
  have hk4 := len_wAs x.ro.attrs
  have hacc : acc.length + (1 + x.ro.name.size) ≤ 140737488355328 := by omega
  have hz1 : (w.alloc (rowO x)).heap.size = w.heap.size + 1 := by simp
  have hls : Ls ((w.alloc (rowO x)).alloc (.cells #[.string ⟨#[60]⟩, .string x.ro.name] 9)) (w.heap.size + 1) [⟨#[60]⟩, x.ro.name] := hz1 ▸ Ls.new (w.alloc (rowO x)) [⟨#[60]⟩, x.ro.name]
  have hNa : N ≤ ((w.alloc (rowO x)).alloc (.cells #[.string ⟨#[60]⟩, .string x.ro.name] 9)).heap.size := by simp; omega
  have hba : Below N w ((w.alloc (rowO x)).alloc (.cells #[.string ⟨#[60]⟩, .string x.ro.name] 9)) := ((Below.refl N w).alloc hN _).alloc (by rw [hz1]; omega) _
  have hka : Kb w ((w.alloc (rowO x)).alloc (.cells #[.string ⟨#[60]⟩, .string x.ro.name] 9)) := (kb_alloc w _).trans (kb_alloc _ _)
  have hta : Rb ((w.alloc (rowO x)).alloc (.cells #[.string ⟨#[60]⟩, .string x.ro.name] 9)) w.heap.size x := (Rb.new w x).kb (kb_alloc _ _)
  have HLS := Lib.hid hls; have HNA := Lib.hid hNa; have HBA := Lib.hid hba; have HKA := Lib.hid hka; have HTA := Lib.hid hta; have HO := Lib.hid ho; have HX := Lib.hid hx
  clear hz1 hls hNa hba hka hta ho hx
  go_enter Tryz.func128, Tryz.ntmps128
  go_wp2_with fail
  refine (appendAll1 N (w.heap.size + 1) 2 2 v acc ([60] ++ L x.ro.name) [⟨#[60]⟩, x.ro.name] _ ((HO.out.alloc _).alloc _) HNA.out HLS.out (by simp) (by rw [flat2, List.length_append, size_L, size_L]; exact hacc) rfl (by rw [flat2])).mono ?_
  rintro e w2 ⟨v2, rfl, ho2, hb2, hk2'⟩
  obtain ⟨g, hg⟩ : ∃ g, w.heap.size = g := ⟨_, rfl⟩
  have ht2 := HTA.out.kb hk2'
  have hB2 := HBA.out.trans hb2
  have hK2 := HKA.out.trans hk2'
  rw [hg] at ht2 ⊢
  obtain ⟨c0, c1, c2, c3, c4⟩ := ht2.c
  have HG := Lib.hid hg
  clear hb2 hk2' hg HLS HNA HBA HKA HTA HO c0 c1 c2 c3
  have HO2 := Lib.hid ho2; have HB2 := Lib.hid hB2; have HK2 := Lib.hid hK2; have HT2 := Lib.hid ht2; clear ho2 hB2 hK2 ht2
  have hra := HX.out.2.2.2.1
  have HRA := Lib.hid (Ro.Ra.more hra hM); clear hra
  go_wp2
  clear c4
  go_loopw [0, 15] (fun u i wr => ∃ k : Nat, i = .int .i64 k ∧ k ≤ x.ro.attrs.length ∧ OwnB N wr u ((acc ++ ([60] ++ L x.ro.name)) ++ (x.ro.attrs.take k).flatMap wA) ∧ Below N w wr ∧ Kb w wr) (fun _ i _ => x.ro.attrs.length - (intOf i).toNat)
  case atStart => exact ⟨0, rfl, Nat.zero_le _, by simpa using HO2.out, HB2.out, HK2.out⟩
  case round =>
    obtain ⟨k, rfl, hk, hown, hb, hkb⟩ := hrel
    by_cases hp : k < x.ro.attrs.length
    · obtain ⟨b0, off0, y, hA, hb0, hdy, hry, hym⟩ := Ro.Ra.at_ (Ro.Ra.below HRA.out hb) k hp
      rw [hA]
      have hy : x.ro.attrs[k] = y := by
        rw [List.drop_eq_getElem_cons hp] at hdy
        injection hdy
      obtain ⟨f0, f1⟩ := range2 hry
      have hsl := sum_le x.ro.attrs k hp
      have hat := attr_take x.ro.attrs k hp
      have hbk := bulk_at x.ro.attrs k hp
      rw [hy] at hsl hat hbk
      obtain ⟨AC, hAC⟩ : ∃ AC, (acc ++ ([60] ++ L x.ro.name)) ++ (x.ro.attrs.take k).flatMap wA = AC := ⟨_, rfl⟩
      have hlen : AC.length + (wA y).length ≤ 140737488355328 := by
        rw [← hAC]
        simp only [List.length_append, List.length_cons, List.length_nil, size_L]
        omega
      rw [hAC] at hown
      have hys : y.value.size ≤ 10000000 := by omega
      have hNr : N ≤ wr.heap.size := Nat.le_trans hN hb.size
      have HO := Lib.hid hown; have HB := Lib.hid hb; have HK := Lib.hid hkb; have HAT := Lib.hid hat; have HAC := Lib.hid hAC
      have hbx := Bx.new wr y.name y.value
      have HBX := Lib.hid hbx
      clear hown hb hkb hat hdy hry hym hy hsl hbk hAC hbx hk4 hacc hk1 hk2
      go_upto_region 5 with (fail)
      go_region_held3 (fun w' => w'.cell? ⟨wr.heap.size, 0, none⟩ = some (.string y.name) ∧ w'.cell? ⟨wr.heap.size, 1, none⟩ = some (.string y.value)) (first | exact ⟨e0, e1⟩ | exact ⟨d0, d1⟩ | go_keep) (first
        | (go_at_call 82; refine (attr_app N _ AC y wr w4 HO.out hNr HB4.out hlen).mono ?_; rintro e w6 ⟨v6, rfl, ho6, hb6, hk6, hx6⟩; have e0 := hx6.c0; have e1 := hx6.c1; have HO6 := Lib.hid ho6; have HB6 := Lib.hid hb6; have HK6 := Lib.hid hk6; clear ho6 hb6 hk6 hx6)
        | (go_at_call 183; refine (Re.valueOf_any y.value (wr.alloc (.cells #[.string y.name, .string y.value] 51)).drew hys).mono ?_; rintro e w4 ⟨rfl, hb4⟩; have hx4 := (show Bx (wr.alloc (.cells #[.string y.name, .string y.value] 51)).drew wr.heap.size y.name y.value from HBX.out).below hb4; have d0 := hx4.c0; have d1 := hx4.c1; have HX4 := Lib.hid hx4; have HB4 := Lib.hid hb4; clear hx4 hb4))
      go_wp2
      go_roundw
      case rel =>
        have hK2 := HK.out.trans HK6.out
        refine ⟨k + 1, by go_num, by omega, ?_, HB.out.trans HB6.out, hK2⟩
        rw [HAT.out, ← List.append_assoc, HAC.out]
        exact HO6.out
      case measure => simp [intOf]; omega
    · rw [List.take_of_length_le (by omega)] at hown
      have hNr : N ≤ wr.heap.size := Nat.le_trans hN hb.size
      obtain ⟨AC, hAC⟩ : ∃ AC, (acc ++ ([60] ++ L x.ro.name)) ++ x.ro.attrs.flatMap wA = AC := ⟨_, rfl⟩
      have hlen : AC.length + 1 ≤ 140737488355328 := by
        rw [← hAC]
        simp only [List.length_append, List.length_cons, List.length_nil, size_L]
        omega
      rw [hAC] at hown
      have hfin : acc ++ tagW x.ro = AC ++ [62] := by rw [← hAC]; unfold tagW; simp only [List.append_assoc]
      have HO := Lib.hid hown; have HB := Lib.hid hb; have HK := Lib.hid hkb; have HF := Lib.hid hfin; clear hown hb hkb hAC hfin
      go_wp2_with (at_builtin; refine app_bytek wr rfl (.tmp 28) (.tmp 29) rfl N _ AC 62 rfl HO.out rfl hlen hNr ?_; intro v4 w4 hown4 hb4 hk4')
      go_ret
      exact ⟨v4, rfl, by rw [HF.out]; exact hown4, HB.out.trans hb4, HK.out.trans hk4'⟩

theorem holds_any (x : Cw) (w : World) :
    Calls Tryz.prog 77 #[rowV x] w fun e w' => e = .returned (.bool (holds x.ro)) ∧ Below w.heap.size w w' := by
  have hb1 := below_new w (rowO x)
  have ht1 := Rb.new w x
  obtain ⟨c0, c1, c2, c3, c4⟩ := ht1.c
  have HB1 := Lib.hid hb1
  clear hb1 ht1
  cases hk : x.ro.kind == 0 with
  | false =>
    have HH := Lib.hid (show holds x.ro = false by unfold holds; rw [hk]; rfl)
    go_enter Tryz.func77, Tryz.ntmps77
    go_wp2
    go_ret
    rw [HH.out]
    exact ⟨rfl, HB1.out⟩
  | true =>
    have HH := Lib.hid (show holds x.ro = !isIn x.ro.name voidL by unfold holds; rw [hk]; rfl)
    go_enter Tryz.func77, Tryz.ntmps77
    go_wp2_with fail
    refine (Na.void_any _ _).mono ?_
    rintro e w2 ⟨rfl, b2⟩
    have HB2 := Lib.hid (bt HB1.out b2)
    clear b2
    go_wp2
    go_ret
    rw [HH.out]
    exact ⟨rfl, HB2.out⟩

end Go.Proofs.YtgjlfcamgkeibaaGreatDoor.Wr

namespace Go.Proofs.YtgjlfcamgkeibaaGreatDoor.Wr
set_option maxRecDepth 100000
set_option linter.unusedSimpArgs false
set_option linter.unusedVariables false
open Go.RowKit Ba Fm Fo Nm Wm
open Ro (At Ro Cw ros rowO rowV acells len_acells below_new Sh Ra acells_one info_attr range2 range5)
open Tm (bulkA)
open To (Kb Ls Bx app_strk flat2 flat3 flat5 flat_le flat_take bulk_at)
open Rm (dec esc)
set_option maxRecDepth 100000 in
set_option maxHeartbeats 1000000 in
theorem appendNode_any (N M : Nat) (v : Value) (acc : List UInt8) (x : Cw) (raw : Bool) (w : World) (ho : OwnB N w v acc) (hN : N ≤ w.heap.size) (hx : Ro.Att w M x) (hM : M ≤ N) (hk : rb x.ro ≤ 10000000) (hz : acc.length ≤ 70000000000000) :
    Calls Tryz.prog 80 #[v, rowV x, .bool raw] w fun e w' => ∃ v', e = .returned v' ∧ OwnB N w' v' (acc ++ node raw x.ro) ∧ Below N w w' ∧ Kb w w' := by
  have hds : x.ro.data.size ≤ 10000000 := by unfold rb at hk; omega
  have hel := (Rm.len_esc false (L x.ro.data)).2.1
  rw [size_L] at hel
  have hz1 : (w.alloc (rowO x)).heap.size = w.heap.size + 1 := by simp
  have hN1 : N ≤ (w.alloc (rowO x)).heap.size := by omega
  have ho1 : OwnB N (w.alloc (rowO x)) v acc := ho.alloc _
  have hB1 : Below N w (w.alloc (rowO x)) := (Below.refl N w).alloc hN _
  have hK1 := kb_alloc w (rowO x)
  have hx1 : Ro.Att (w.alloc (rowO x)) M x := hx.below hB1 hM
  obtain ⟨c0, c1, c2, c3, c4⟩ := (Rb.new w x).c
  have HO := Lib.hid ho1; have HB := Lib.hid hB1; have HK := Lib.hid hK1; have HX := Lib.hid hx1
  clear ho1 hB1 hK1 hx1 hz1 hx ho
  by_cases h0 : x.ro.kind = 0
  · have g0 : (x.ro.kind == 0) = true := beq_iff_eq.2 h0
    have HN := Lib.hid (show node raw x.ro = tagW x.ro by unfold node; rw [if_pos h0])
    clear h0
    go_enter Tryz.func80, Tryz.ntmps80
    go_wp2_with fail
    refine (appendTag_any N M v acc x (w.alloc (rowO x)) HO.out hN1 HX.out hM hk hz).mono ?_
    rintro e w2 ⟨v2, rfl, ho2, hb2, hk2⟩
    have HO2 := Lib.hid ho2; have HB2 := Lib.hid (HB.out.trans hb2); have HK2 := Lib.hid (HK.out.trans hk2)
    clear ho2 hb2 hk2
    go_wp2
    go_ret
    exact ⟨v2, rfl, by rw [HN.out]; exact HO2.out, HB2.out, HK2.out⟩
  have g0 : (x.ro.kind == 0) = false := beq_eq_false_iff_ne.2 h0
  by_cases h1 : x.ro.kind = 1
  · have g1 : (x.ro.kind == 1) = true := beq_iff_eq.2 h1
    cases raw with
    | true =>
      have HN := Lib.hid (show node true x.ro = L x.ro.data by unfold node; rw [if_neg h0, if_pos h1, if_pos rfl])
      clear h0 h1
      go_enter Tryz.func80, Tryz.ntmps80
      go_wp2_with (at_builtin; refine app_strk (w.alloc (rowO x)) rfl (.tmp 17) (.tmp 19) rfl N _ acc x.ro.data rfl HO.out rfl (by omega) hN1 ?_; intro v4 w4 hown4 hb4 hk4)
      go_ret
      exact ⟨v4, rfl, by rw [HN.out]; exact hown4, HB.out.trans hb4, HK.out.trans hk4⟩
    | false =>
      have HN := Lib.hid (show node false x.ro = esc false (L x.ro.data) by unfold node; rw [if_neg h0, if_pos h1, if_neg (by simp)])
      clear h0 h1
      go_enter Tryz.func80, Tryz.ntmps80
      go_wp2_with fail
      refine (Re.text_any x.ro.data (w.alloc (rowO x)) hds).mono ?_
      rintro e w2 ⟨rfl, b2⟩
      have HO2 := Lib.hid (OwnB.keep HO.out b2); have HB2 := Lib.hid (HB.out.trans (b2.mono hN1)); have HK2 := Lib.hid (HK.out.trans (Kb.below b2))
      have hN2 : N ≤ w2.heap.size := Nat.le_trans hN1 b2.size
      clear b2
      go_wp2_with (at_builtin; refine app_strk w2 rfl (.tmp 21) (.tmp 24) rfl N _ acc (B (esc false (L x.ro.data))) rfl HO2.out rfl (by rw [size_B]; omega) hN2 ?_; intro v4 w4 hown4 hb4 hk4)
      rw [L_B] at hown4
      go_ret
      exact ⟨v4, rfl, by rw [HN.out]; exact hown4, HB2.out.trans hb4, HK2.out.trans hk4⟩
  have g1 : (x.ro.kind == 1) = false := beq_eq_false_iff_ne.2 h1
  by_cases h2 : x.ro.kind = 2
  · have g2 : (x.ro.kind == 2) = true := beq_iff_eq.2 h2
    have HN := Lib.hid (show node raw x.ro = L ⟨#[60, 33, 45, 45]⟩ ++ (L x.ro.data ++ L ⟨#[45, 45, 62]⟩) by unfold node; rw [if_neg h0, if_neg h1, if_pos h2, List.append_assoc])
    clear h0 h1 h2
    go_enter Tryz.func80, Tryz.ntmps80
    go_wp2_with fail
    rw [← show (w.alloc (rowO x)).heap.size = w.heap.size + 1 from by simp]
    refine (lit_app3 N v acc ⟨#[60, 33, 45, 45]⟩ x.ro.data ⟨#[45, 45, 62]⟩ (w.alloc (rowO x)) HO.out hN1 (by show acc.length + (4 + (_ + 3)) ≤ _; omega)).mono ?_
    rintro e w2 ⟨v2, rfl, ho2, hb2, hk2⟩
    rw [← HN.out] at ho2
    have HO2 := Lib.hid ho2; have HB2 := Lib.hid (HB.out.trans hb2); have HK2 := Lib.hid (HK.out.trans hk2)
    clear ho2 hb2 hk2
    go_wp2
    go_ret
    exact ⟨v2, rfl, HO2.out, HB2.out, HK2.out⟩
  · have g2 : (x.ro.kind == 2) = false := beq_eq_false_iff_ne.2 h2
    have HN := Lib.hid (show node raw x.ro = [] by unfold node; rw [if_neg h0, if_neg h1, if_neg h2])
    clear h0 h1 h2
    go_enter Tryz.func80, Tryz.ntmps80
    go_wp2
    go_ret
    exact ⟨v, rfl, by rw [HN.out, List.append_nil]; exact HO.out, HB.out, HK.out⟩

end Go.Proofs.YtgjlfcamgkeibaaGreatDoor.Wr

namespace Go.Proofs.YtgjlfcamgkeibaaGreatDoor.Wr
set_option linter.unusedSimpArgs false
set_option linter.unusedVariables false
open Go.RowKit Ba Fm Fo Nm Wm
open Ro (At Ro Cw ros rowO rowV below_new range5)
open To (Kb)
def K2 (w w' : World) : Prop := w.heap.size ≤ w'.heap.size ∧ ∀ (i : Nat) (cs : Array Value) (t : TypeId) (fr : Nat × Nat), w.heap[i]? = some (.cells cs t fr) → t ≠ 5 → t ≠ 88 → w'.heap[i]? = w.heap[i]?
theorem K2.refl (w : World) : K2 w w := ⟨Nat.le_refl _, fun _ _ _ _ _ _ _ => rfl⟩
theorem K2.trans {a b c : World} (h : K2 a b) (k : K2 b c) : K2 a c := ⟨Nat.le_trans h.1 k.1, fun i cs t fr hi ht hu => by
  have h1 := h.2 i cs t fr hi ht hu
  exact (k.2 i cs t fr (h1.trans hi) ht hu).trans h1⟩
theorem K2.kb {w w' : World} (h : Kb w w') : K2 w w' := ⟨h.1, fun i cs t fr hi ht _ => h.2 i cs t fr hi ht⟩
theorem K2.below {w w' : World} (h : Below w.heap.size w w') : K2 w w' := K2.kb (Kb.below h)
theorem grown_set (w : World) (b j : Nat) (u : Value) : w.grownBy (w.setCell ⟨b, j, none⟩ u) (some b) :=
  ⟨rfl, rfl, rfl, by simp [World.setCell], fun k _ hk => Below.heap_setCell _ _ _ _ (fun e => hk (by simp [e]))⟩
theorem K2.set {w : World} {b : Nat} {cs : Array Value} {fr : Nat × Nat} (h : w.heap[b]? = some (.cells cs 88 fr)) (u : Value) : K2 w (w.setCell ⟨b, 0, none⟩ u) :=
  ⟨(grown_set w b 0 u).size, fun i cs' t fr' hi _ hu => (grown_set w b 0 u).block i (Array.getElem?_eq_some_iff.1 hi).1 fun e => by
    injection e with e
    subst e
    rw [h] at hi
    injection hi with hi
    injection hi with _ h2
    exact hu h2.symm⟩
theorem Rb.k2 {w w' : World} {g : Nat} {x : Cw} (h : Rb w g x) (k : K2 w w') : Rb w' g x := (k.2 g _ _ _ h (by decide) (by decide)).trans h

abbrev Fv (bl bo bk : Nat) : Value := .func (.func 78) #[] #[.pointer (some ⟨bl, 0, none⟩), .pointer (some ⟨bo, 0, none⟩), .pointer (some ⟨bk, 0, none⟩)]
structure Cl (N : Nat) (w : World) (bl bo bk : Nat) (A : Option Addr) (c : Nat) (l : List Cw) (acc : List UInt8) : Prop where
  l_ : w.heap[bl]? = some (.cells #[.slice A l.length c] 22)
  o_ : ∃ vo, w.heap[bo]? = some (.cells #[vo] 88) ∧ OwnB N w vo acc
  k_ : w.heap[bk]? = some (.cells #[Fv bl bo bk] 89)
  rows : Ro.Rr w N A l
  base : N ≤ bo
  cap : l.length ≤ c
section
variable {N bl bo bk c : Nat} {A : Option Addr} {l : List Cw} {acc acc' : List UInt8} {w w1 : World}
theorem Cl.size (h : Cl N w bl bo bk A c l acc) : N ≤ w.heap.size := by
  obtain ⟨vo, ho, _⟩ := h.o_
  exact Nat.le_trans h.base (Nat.le_of_lt (Array.getElem?_eq_some_iff.1 ho).1)
theorem Cl.below (h : Cl N w bl bo bk A c l acc) (hb : Below w.heap.size w w1) : Cl N w1 bl bo bk A c l acc := by
  obtain ⟨vo, ho, hown⟩ := h.o_
  exact ⟨(hb.block _ (Array.getElem?_eq_some_iff.1 h.l_).1).trans h.l_, ⟨vo, (hb.block _ (Array.getElem?_eq_some_iff.1 ho).1).trans ho, OwnB.keep hown hb⟩, (hb.block _ (Array.getElem?_eq_some_iff.1 h.k_).1).trans h.k_, h.rows.below hb h.size, h.base, h.cap⟩
theorem Cl.cl (h : Cl N w bl bo bk A c l acc) : w.cell? ⟨bl, 0, none⟩ = some (.slice A l.length c) := by rw [cell_of_row w bl 0 _ _ _ h.l_]; rfl
theorem Cl.ck (h : Cl N w bl bo bk A c l acc) : w.cell? ⟨bk, 0, none⟩ = some (Fv bl bo bk) := by rw [cell_of_row w bk 0 _ _ _ h.k_]; rfl
theorem Cl.co (h : Cl N w bl bo bk A c l acc) : ∃ vo, w.cell? ⟨bo, 0, none⟩ = some vo ∧ OwnB N w vo acc := by
  obtain ⟨vo, ho, hown⟩ := h.o_
  exact ⟨vo, by rw [cell_of_row w bo 0 _ _ _ ho]; rfl, hown⟩
theorem Cl.mid (h : Cl N w bl bo bk A c l acc) (hk : Kb w w1) : (∃ u, w1.cell? ⟨bo, 0, none⟩ = some u) ∧ w1.frozen? ⟨bo, 0, none⟩ = false := by
  obtain ⟨vo, ho, _⟩ := h.o_
  have h1 := (hk.2 bo _ _ _ ho (by decide)).trans ho
  exact ⟨⟨vo, by rw [cell_of_row w1 bo 0 _ _ _ h1]; rfl⟩, by simp [World.frozen?, h1]⟩
theorem Cl.put (h : Cl N w bl bo bk A c l acc) (hb : Below N w w1) (hk : Kb w w1) {v : Value} (ho : OwnB N w1 v acc') :
    Cl N (w1.setCell ⟨bo, 0, none⟩ v) bl bo bk A c l acc' ∧ Below N w (w1.setCell ⟨bo, 0, none⟩ v) ∧ K2 w (w1.setCell ⟨bo, 0, none⟩ v) := by
  obtain ⟨vo, ho0, _⟩ := h.o_
  have h1 := (hk.2 bo _ _ _ ho0 (by decide)).trans ho0
  have hg := grown_set w1 bo 0 v
  have hbw : Below N w (w1.setCell ⟨bo, 0, none⟩ v) := hb.setCell h.base v
  have hk2 : K2 w (w1.setCell ⟨bo, 0, none⟩ v) := (K2.kb hk).trans (K2.set h1 v)
  refine ⟨⟨(hk2.2 bl _ _ _ h.l_ (by decide) (by decide)).trans h.l_, ⟨v, ?_, ?_⟩, (hk2.2 bk _ _ _ h.k_ (by decide) (by decide)).trans h.k_, h.rows.below hbw (Nat.le_refl _), h.base, h.cap⟩, hbw, hk2⟩
  · simp [World.setCell, Array.getElem?_modify, h1]
  · exact World.ownsRow.kept ho hg (.inr (To.own_ne ho h1 (by decide)))
end

def rest (l : List Ro) (D : Int) (s : Nat) : List Ro := (l.drop s).takeWhile (deep D)
theorem tw_tw {α : Type} (p q : α → Bool) (h : ∀ x, p x = true → q x = true) : ∀ l : List α, (l.takeWhile q).takeWhile p = l.takeWhile p
  | [] => rfl
  | a :: l => by
    cases hq : q a with
    | true => rw [List.takeWhile_cons, if_pos hq, List.takeWhile_cons, List.takeWhile_cons, tw_tw p q h l]
    | false =>
      have hp : p a = false := by cases hp : p a with | false => rfl | true => rw [h a hp] at hq; cases hq
      rw [List.takeWhile_cons, if_neg (by rw [hq]; simp), List.takeWhile_cons, if_neg (by rw [hp]; simp)]; rfl
theorem dw_tw {α : Type} (p q : α → Bool) (h : ∀ x, p x = true → q x = true) : ∀ l : List α, (l.takeWhile q).dropWhile p = (l.dropWhile p).takeWhile q
  | [] => rfl
  | a :: l => by
    cases hp : p a with
    | true => rw [List.takeWhile_cons, if_pos (h a hp), List.dropWhile_cons, if_pos hp, List.dropWhile_cons, if_pos hp, dw_tw p q h l]
    | false =>
      rw [List.dropWhile_cons (p := p) (x := a) (xs := l), if_neg (by rw [hp]; simp)]
      cases hq : q a with
      | true => rw [List.takeWhile_cons, if_pos hq, List.dropWhile_cons, if_neg (by rw [hp]; simp)]
      | false => rw [List.takeWhile_cons, if_neg (by rw [hq]; simp)]; rfl
theorem dw_drop {α : Type} (p : α → Bool) : ∀ l : List α, l.dropWhile p = l.drop (l.takeWhile p).length
  | [] => rfl
  | a :: l => by
    cases hp : p a with
    | true => rw [List.dropWhile_cons, if_pos hp, List.takeWhile_cons, if_pos hp, List.length_cons, List.drop_succ_cons, dw_drop p l]
    | false => rw [List.dropWhile_cons, if_neg (by rw [hp]; simp), List.takeWhile_cons, if_neg (by rw [hp]; simp)]; rfl
theorem rest_stop {l : List Ro} {D : Int} {s : Nat} (h : ∀ x, l[s]? = some x → ¬ D < x.depth) : rest l D s = [] := by
  unfold rest
  cases hd : l.drop s with
  | nil => rfl
  | cons x r =>
    have hx : l[s]? = some x := by
      have := congrArg List.head? hd
      rw [List.head?_drop] at this
      exact this
    rw [List.takeWhile_cons, if_neg (by unfold deep; simpa using h x hx)]
theorem rest_go {l : List Ro} {D : Int} {s : Nat} {x : Ro} (hx : l[s]? = some x) (h : D < x.depth) :
    rest l D s = x :: rest l D (s + 1) ∧ inn x (rest l D (s + 1)) = rest l x.depth (s + 1) ∧ beh x (rest l D (s + 1)) = rest l D (s + 1 + (rest l x.depth (s + 1)).length) := by
  have hlt : s < l.length := (List.getElem?_eq_some_iff.1 hx).1
  have hd : l.drop s = x :: l.drop (s + 1) := by
    rw [List.drop_eq_getElem_cons hlt]
    rw [List.getElem?_eq_getElem hlt] at hx
    injection hx with hx
    rw [hx]
  have himp : ∀ y : Ro, deep x.depth y = true → deep D y = true := fun y hy => by
    unfold deep at hy ⊢
    rw [decide_eq_true_iff] at hy ⊢
    omega
  refine ⟨?_, tw_tw _ _ himp _, ?_⟩
  · unfold rest
    rw [hd, List.takeWhile_cons, if_pos (by unfold deep; exact decide_eq_true h)]
  · unfold beh rest
    rw [dw_tw _ _ himp, dw_drop, List.drop_drop]
theorem wr_rest {raw : Bool} {l : List Ro} {D : Int} {s : Nat} {x : Ro} (hx : l[s]? = some x) (h : D < x.depth) :
    Wm.wr raw (rest l D s) = node raw x ++ ((if holds x = true then Wm.wr (isIn x.name rawL) (rest l x.depth (s + 1)) ++ endW x else []) ++ Wm.wr raw (rest l D (s + 1 + (rest l x.depth (s + 1)).length))) := by
  obtain ⟨h1, h2, h3⟩ := rest_go hx h
  rw [h1, Wm.wr_cons, h2, h3]
theorem len_rest {l : List Ro} {D : Int} {s : Nat} {x : Ro} (hx : l[s]? = some x) (h : D < x.depth) :
    s + (rest l D s).length = (s + 1 + (rest l x.depth (s + 1)).length) + (rest l D (s + 1 + (rest l x.depth (s + 1)).length)).length := by
  obtain ⟨h1, h2, h3⟩ := rest_go hx h
  have := len_parts x (rest l D (s + 1))
  rw [h2, h3] at this
  rw [h1, List.length_cons]
  omega
theorem rest_le {l : List Ro} {D : Int} {s : Nat} (hs : s ≤ l.length) : s + (rest l D s).length ≤ l.length := by
  have := (List.takeWhile_sublist (deep D) (l := l.drop s)).length_le
  unfold rest
  rw [List.length_drop] at this
  omega
theorem end_rest {l : List Ro} {k : Nat} {x : Ro} (hx : l[k]? = some x) : Ro.endAt l (k : Int) = k + 1 + (rest l x.depth (k + 1)).length := by
  have hlt : k < l.length := (List.getElem?_eq_some_iff.1 hx).1
  have h1 : Ro.hasRow l (k : Int) = true := by unfold Ro.hasRow; exact decide_eq_true ⟨by omega, by omega⟩
  unfold Ro.endAt
  rw [h1, if_pos rfl]
  unfold Ro.endOf Ro.below rest
  rw [Ro.dep_at hx, show ((k : Int) + 1).toNat = k + 1 by omega]
  rfl

end Go.Proofs.YtgjlfcamgkeibaaGreatDoor.Wr

namespace Go.Proofs.YtgjlfcamgkeibaaGreatDoor.Wr
set_option maxRecDepth 100000
set_option linter.unusedSimpArgs false
set_option linter.unusedVariables false
open Go.RowKit Ba Fm Fo Nm Wm
open Ro (At Ro Cw ros rowO rowV below_new range5 cells)
open To (Kb)
def Par (l : List Ro) (p D : Int) (s : Nat) (raw : Bool) : Prop :=
  (p = -1 ∧ D = -1 ∧ s = 0 ∧ raw = false) ∨ ∃ k x, p = ((k : Nat) : Int) ∧ l[k]? = some x ∧ D = x.depth ∧ s = k + 1 ∧ raw = isIn x.name rawL
def KSays (N bl bo bk : Nat) (A : Option Addr) (c : Nat) (l : List Cw) (w : World) (acc : List UInt8) (D : Int) (s : Nat) (raw : Bool) (e : Ending) (w' : World) : Prop :=
  e = .returned (.int .i64 ((s + (rest (ros l) D s).length : Nat) : Int)) ∧ Cl N w' bl bo bk A c l (acc ++ Wm.wr raw (rest (ros l) D s)) ∧ Below N w w' ∧ K2 w w'
structure KL (N bl bo bk : Nat) (A : Option Addr) (c : Nat) (l : List Cw) (w : World) (acc : List UInt8) (D : Int) (s : Nat) (raw : Bool) (t : Nat) (pre : List UInt8) (wr : World) : Prop where
  cl : Cl N wr bl bo bk A c l (acc ++ pre)
  wrt : pre ++ Wm.wr raw (rest (ros l) D t) = Wm.wr raw (rest (ros l) D s)
  len : t + (rest (ros l) D t).length = s + (rest (ros l) D s).length
  below : Below N w wr
  k2 : K2 w wr
  le : s ≤ t
def KR (N bl bo bk : Nat) (A : Option Addr) (c : Nat) (l : List Cw) (w : World) (acc : List UInt8) (D : Int) (s : Nat) (raw : Bool) (t : Nat) (wr : World) : Prop := ∃ pre, KL N bl bo bk A c l w acc D s raw t pre wr

theorem ros_get {l : List Cw} {k : Nat} {x : Cw} (h : l.drop k = x :: l.drop (k + 1)) : (ros l)[k]? = some x.ro := by
  have := congrArg List.head? h
  rw [List.head?_drop] at this
  unfold ros
  rw [List.getElem?_map, this]; rfl
theorem own_slice {N : Nat} {w : World} {v : Value} {l : List UInt8} (h : OwnB N w v l) : ∃ A n c, v = .slice A n c := by
  rcases h.2 with ⟨rfl, _⟩ | ⟨g, cap, cur, rfl, _⟩
  · exact ⟨_, _, _, rfl⟩
  · exact ⟨_, _, _, rfl⟩
set_option maxRecDepth 100000 in
set_option maxHeartbeats 4000000 in
theorem kids_step (N bl bo bk c n : Nat) (A : Option Addr) (l : List Cw) (hl : l.length ≤ 1000000) (hrb : ∀ x ∈ l, rb x.ro ≤ 10000000)
    (ih : ∀ (acc : List UInt8) (p D : Int) (s : Nat) (raw : Bool) (w : World), Cl N w bl bo bk A c l acc → Par (ros l) p D s raw → s ≤ l.length → (rest (ros l) D s).length < n → acc.length + (Wm.wr raw (rest (ros l) D s)).length ≤ 70000000000000 →
      Calls Tryz.prog 78 #[.int .i64 p, .pointer (some ⟨bl, 0, none⟩), .pointer (some ⟨bo, 0, none⟩), .pointer (some ⟨bk, 0, none⟩)] w fun e w' => KSays N bl bo bk A c l w acc D s raw e w')
    (acc : List UInt8) (p D : Int) (s : Nat) (raw : Bool) (w : World) (hcl : Cl N w bl bo bk A c l acc) (hp : Par (ros l) p D s raw) (hs : s ≤ l.length) (hn : (rest (ros l) D s).length < n + 1) (hz : acc.length + (Wm.wr raw (rest (ros l) D s)).length ≤ 70000000000000) :
    Calls Tryz.prog 78 #[.int .i64 p, .pointer (some ⟨bl, 0, none⟩), .pointer (some ⟨bo, 0, none⟩), .pointer (some ⟨bk, 0, none⟩)] w fun e w' => KSays N bl bo bk A c l w acc D s raw e w' := by
  have IH := Lib.hid ih
  have HCL := Lib.hid hcl
  have HP := Lib.hid hp
  have HZ := Lib.hid hz
  have HN := Lib.hid hn
  have HRB := Lib.hid hrb
  have cl0 := hcl.cl
  clear ih hcl hz hn hrb
  have hsp : p = (s : Int) - 1 := by
    rcases hp with ⟨h1, _, h3, _⟩ | ⟨k, x, h1, _, _, h4, _⟩
    · rw [h1, h3]; rfl
    · rw [h1, h4]; omega
  have hp1 : (-1 : Int) ≤ p := by omega
  have hp2 : p ≤ 1000000 := by omega
  have HSP := Lib.hid hsp
  clear hp hsp
  go_enter Tryz.func78, Tryz.ntmps78
  go_upto_if 11 with (fail)
  go_cut [6, 7] from 12 to 22 (fun s6 s7 wx => s6 = .int .i64 D ∧ s7 = .bool raw ∧ Below w.heap.size w wx)
  case first =>
    rcases HP.out with ⟨h1, h2, h3, h4⟩ | ⟨k, x, h1, h2, h3, h4, h5⟩
    · subst h1 h2 h4
      go_wp2
      go_meet
      exact ⟨rfl, rfl, Below.refl _ _⟩
    · subst h1 h3 h5
      have hk : k < l.length := by
        have := (List.getElem?_eq_some_iff.1 h2).1
        rwa [Ro.len_ros] at this
      obtain ⟨b, off, y, rfl, hb, hdx, hx, hxa, hxm⟩ := Ro.Rr.at_ HCL.out.rows k hk
      have hy : y.ro = x := by
        have := ros_get hdx
        rw [h2] at this
        injection this with this
        exact this.symm
      subst hy
      have hcc := HCL.out.cap
      obtain ⟨x0, x1, x2, x3, x4⟩ := range5 hx
      have HX0 := Lib.hid x0; have HX2 := Lib.hid x2; have HC0 := Lib.hid cl0
      have hbl : bl < w.heap.size := (Array.getElem?_eq_some_iff.1 HCL.out.l_).1
      have hbw : b < w.heap.size := Nat.lt_of_lt_of_le hb HCL.out.size
      clear h2 h4 hdx hx hxa hxm x1 x3 x4 hb
      go_upto_region 3 with (fail)
      go_region_held3 (fun w' => w'.cell? ⟨bl, 0, none⟩ = some (.slice (some ⟨b, off, none⟩) l.length c) ∧ w'.cell? ⟨b, off + k * 5, none⟩ = some (.int .i64 y.ro.depth) ∧ w'.cell? ⟨b, off + k * 5 + 2, none⟩ = some (.string y.ro.name)) (first | exact ⟨e0, e1, e2⟩ | exact ⟨HC0.out, HX0.out, HX2.out⟩ | go_keep) (first
        | (go_at_call 79; refine (Na.raw_any y.ro.name w.drew).mono ?_; rintro e w2 ⟨rfl, hb2⟩; have e0 := (hb2.cell (p := ⟨bl, 0, none⟩) hbl).trans HC0.out; have e1 := (hb2.cell (p := ⟨b, off + k * 5, none⟩) hbw).trans HX0.out; have e2 := (hb2.cell (p := ⟨b, off + k * 5 + 2, none⟩) hbw).trans HX2.out; have HB2 := Lib.hid hb2; clear hb2))
      all_goals go_wp2
      all_goals go_meet
      all_goals exact ⟨rfl, rfl, ⟨HB2.out.os, HB2.out.tape, HB2.out.output, HB2.out.size, HB2.out.block⟩⟩
  case rest =>
    obtain ⟨rfl, rfl, hbx⟩ := hcut
    have HS0 := Lib.hid (show KR N bl bo bk A c l w acc D s raw s wc from ⟨[], ⟨by rw [List.append_nil]; exact HCL.out.below hbx, rfl, rfl, hbx.mono HCL.out.size, K2.below hbx, Nat.le_refl _⟩⟩)
    have hps : p + 1 = (s : Int) := by have := HSP.out; omega
    clear hbx cl0
    go_wp2
    go_loopw [8] (fun i wr => ∃ t : Nat, i = .int .i64 t ∧ t ≤ l.length ∧ ∃ pre, KL N bl bo bk A c l w acc D s raw t pre wr) (fun i _ => l.length - (intOf i).toNat)
    case atStart => exact ⟨s, by first | rfl | rw [hps], hs, HS0.out⟩
    case round =>
      obtain ⟨t, rfl, ht, pre, hkl⟩ := hrel
      have cl1 := hkl.cl.cl
      have hcp := hkl.cl.cap
      have hbN := hkl.below
      have hNw := hkl.cl.size
      by_cases hp : t < l.length
      · obtain ⟨b, off, x, rfl, hb, hdx, hx, hxa, hxm⟩ := Ro.Rr.at_ hkl.cl.rows t hp
        have hget := ros_get hdx
        obtain ⟨x0, x1, x2, x3, x4⟩ := range5 hx
        have HKL := Lib.hid hkl; have HG := Lib.hid hget; have HXA := Lib.hid hxa; have HXM := Lib.hid hxm; have HBN := Lib.hid hbN
        clear hkl hget hxa hxm hdx hbN
        by_cases hD : D < x.ro.depth
        · clear x1 x2 x3 x4
          have hR1 := Lib.hid (wr_rest (raw := raw) HG.out hD)
          have hR2 := Lib.hid (len_rest HG.out hD)
          go_upto_region 7 with (refine wpList_load_mid rfl 47 (.tmp 40) rfl b (off + t * 5) rfl _ _ hx Tryz.underlying47 rfl Ro.size_row ?_)
          obtain ⟨W1, hW1⟩ : ∃ W1, wr.alloc (rowO x) = W1 := ⟨_, rfl⟩
          have hrb1 : Rb W1 wr.heap.size x := by rw [← hW1]; exact Rb.new wr x
          have hbl1 : Below wr.heap.size wr W1 := by rw [← hW1]; exact below_new wr _
          rw [hW1]
          obtain ⟨g, hg⟩ : ∃ g, wr.heap.size = g := ⟨_, rfl⟩
          rw [hg] at hrb1 ⊢
          clear x0 hx cl1 hb hW1
          have hcl1 := HKL.out.cl.below hbl1
          have hN1 := hcl1.size
          obtain ⟨vo, hco, hown⟩ := hcl1.co
          have hz1 : (acc ++ pre).length + (Wm.wr raw (rest (ros l) D t)).length ≤ 70000000000000 := by
            have h1 := congrArg List.length HKL.out.wrt
            rw [List.length_append] at h1 ⊢
            have := HZ.out
            omega
          have hz2 : (acc ++ pre).length ≤ 70000000000000 := by omega
          have hrx := HRB.out x HXM.out
          have hxa1 : Ro.Att W1 N x := HXA.out.below (hbl1.mono (by omega))
          have HCL1 := Lib.hid hcl1; have HRB1 := Lib.hid hrb1; have HBL1 := Lib.hid hbl1; have HOWN := Lib.hid hown; have HZ1 := Lib.hid hz1; have HXA1 := Lib.hid hxa1; have HGG := Lib.hid hg
          obtain ⟨c0, c1, c2, c3, c4⟩ := hrb1.c
          clear hcl1 hrb1 hbl1 hown hz1 hxa1 hg
          go_wp2_with fail
          refine (appendNode_any N N vo (acc ++ pre) x raw W1 HOWN.out hN1 HXA1.out (Nat.le_refl _) hrx hz2).mono ?_
          rintro e w2 ⟨v2, rfl, ho2, hb2, hk2⟩
          obtain ⟨⟨u, hu⟩, hfr⟩ := HCL1.out.mid hk2
          have HP2 := Lib.hid (HCL1.out.put hb2 hk2 ho2)
          obtain ⟨A2, m2, d2, rfl⟩ : ∃ A n c, v2 = .slice A n c := own_slice ho2
          clear ho2 hb2 hk2 c0 c1 c2 c3 c4 hco
          go_upto_region 8 with (fail)
          obtain ⟨W2, hW2⟩ : ∃ W2, w2.setCell ⟨bo, 0, none⟩ (.slice A2 m2 d2) = W2 := ⟨_, rfl⟩
          have hp2 := HP2.out
          rw [hW2] at hp2 ⊢
          obtain ⟨hcl2, hb2, hk2⟩ := hp2
          have hrb2 := HRB1.out.k2 hk2
          obtain ⟨c0, c1, c2, c3, c4⟩ := hrb2.c
          have cl2 := hcl2.cl
          have ck2 := hcl2.ck
          have hN2 := hcl2.size
          have HCL2 := Lib.hid hcl2; have HB2 := Lib.hid hb2; have HK2 := Lib.hid hk2; have HRB2 := Lib.hid hrb2
          clear HP2 hW2 hcl2 hb2 hk2 hrb2 hu hfr
          obtain ⟨q, hq⟩ : ∃ q, holds x.ro = q := ⟨_, rfl⟩
          have HQ := Lib.hid hq
          clear hq
          go_wp2_with fail
          refine (holds_any x W2).mono ?_
          rw [HQ.out]
          rintro e w3 ⟨rfl, hb3⟩
          have hcl3 := HCL2.out.below hb3
          have hrb3 := HRB2.out.k2 (K2.below hb3)
          have hB3 := HBL1.out.mono (show N ≤ wr.heap.size from hNw) |>.trans (HB2.out.trans (hb3.mono hN2))
          have hK3 := (K2.below HBL1.out).trans (HK2.out.trans (K2.below hb3))
          have cl3 := hcl3.cl
          have ck3 := hcl3.ck
          have hr3 := hcl3.rows.more hcl3.size
          have HCL3 := Lib.hid hcl3; have HB3 := Lib.hid hB3; have HK3 := Lib.hid hK3; have HRB3 := Lib.hid hrb3; have HR3 := Lib.hid hr3
          clear hb3 hcl3 hB3 hK3 hrb3 hr3 cl2 ck2 c0 c1 c2 c3 c4
          have he := end_rest HG.out
          have HE := Lib.hid he
          clear he
          cases q with
          | false =>
            go_wp2_with fail
            refine (Ro.End_any (some ⟨b, off, none⟩) c l (t : Int) w3 HR3.out hcp hl).mono ?_
            rw [HE.out]
            rintro e w4 ⟨rfl, rfl⟩
            go_wp2
            go_roundw
            case rel =>
              have h1 := hR1.out
              rw [HQ.out, if_neg (by simp), List.nil_append] at h1
              refine ⟨t + 1 + (rest (ros l) x.ro.depth (t + 1)).length, rfl, ?_, pre ++ node raw x.ro, ⟨by rw [← List.append_assoc]; exact HCL3.out, ?_, ?_, HBN.out.trans HB3.out, HKL.out.k2.trans HK3.out, by have := HKL.out.le; omega⟩⟩
              · have := rest_le (l := ros l) (D := x.ro.depth) (s := t + 1) (by rw [Ro.len_ros]; omega)
                rw [Ro.len_ros] at this
                exact this
              · rw [List.append_assoc, ← h1]; exact HKL.out.wrt
              · rw [← hR2.out]; exact HKL.out.len
            case measure => simp [intOf]; omega
          | true =>
            have h1 := hR1.out
            rw [HQ.out, if_pos rfl] at h1
            have hlt : (rest (ros l) x.ro.depth (t + 1)).length < n := by
              have e1 := hR2.out; have e2 := HKL.out.len; have e3 := HKL.out.le; have e4 := HN.out
              omega
            have hzz : (acc ++ pre ++ node raw x.ro).length + (Wm.wr (isIn x.ro.name rawL) (rest (ros l) x.ro.depth (t + 1))).length + (endW x.ro).length ≤ 70000000000000 := by
              have e1 := HZ1.out
              rw [h1] at e1
              simp only [List.length_append] at e1 ⊢
              omega
            have H1 := Lib.hid h1; have HLT := Lib.hid hlt; have HZZ := Lib.hid hzz
            clear h1 hlt hzz
            go_wp2_with fail
            refine (IH.out (acc ++ pre ++ node raw x.ro) (t : Int) x.ro.depth (t + 1) (isIn x.ro.name rawL) w3 HCL3.out (.inr ⟨t, x.ro, rfl, HG.out, rfl, rfl, rfl⟩) hp HLT.out (by have := HZZ.out; omega)).mono ?_
            rintro e w4 ⟨rfl, hcl4, hb4, hk4⟩
            obtain ⟨vo4, hco4, hown4⟩ := hcl4.co
            have hrb4 := HRB3.out.k2 hk4
            obtain ⟨c0, c1, c2, c3, c4⟩ := hrb4.c
            have hN4 := hcl4.size
            have hlen4 : (acc ++ pre ++ node raw x.ro ++ Wm.wr (isIn x.ro.name rawL) (rest (ros l) x.ro.depth (t + 1))).length + (2 + (x.ro.name.size + 1)) ≤ 140737488355328 := by
              have e1 := HZZ.out
              unfold rb at hrx
              rw [List.length_append]
              omega
            have HCL4 := Lib.hid hcl4; have HB4 := Lib.hid hb4; have HK4 := Lib.hid hk4; have HO4 := Lib.hid hown4; have HL4 := Lib.hid hlen4
            clear hcl4 hb4 hk4 hown4 hrb4 hlen4 c0 c1 c3 c4 cl3 ck3
            go_wp2_with fail
            refine (lit_app3 N vo4 _ ⟨#[60, 47]⟩ x.ro.name ⟨#[62]⟩ w4 HO4.out hN4 HL4.out).mono ?_
            rintro e w5 ⟨v5, rfl, ho5, hb5, hk5⟩
            obtain ⟨⟨u5', hu5⟩, hfr5⟩ := HCL4.out.mid hk5
            have HP5 := Lib.hid (HCL4.out.put hb5 hk5 ho5)
            obtain ⟨A5, m5, d5, rfl⟩ : ∃ A n c, v5 = .slice A n c := own_slice ho5
            clear ho5 hb5 hk5 c2 hco4
            go_wp2
            go_roundw
            case rel =>
              obtain ⟨hcl5, hb5, hk5⟩ := HP5.out
              refine ⟨t + 1 + (rest (ros l) x.ro.depth (t + 1)).length, rfl, ?_, pre ++ node raw x.ro ++ (Wm.wr (isIn x.ro.name rawL) (rest (ros l) x.ro.depth (t + 1)) ++ endW x.ro), ⟨?_, ?_, ?_, HBN.out.trans (HB3.out.trans (HB4.out.trans hb5)), HKL.out.k2.trans (HK3.out.trans (HK4.out.trans hk5)), by have := HKL.out.le; omega⟩⟩
              · have := rest_le (l := ros l) (D := x.ro.depth) (s := t + 1) (by rw [Ro.len_ros]; omega)
                rw [Ro.len_ros] at this
                exact this
              · have e : acc ++ (pre ++ node raw x.ro ++ (Wm.wr (isIn x.ro.name rawL) (rest (ros l) x.ro.depth (t + 1)) ++ endW x.ro)) = acc ++ pre ++ node raw x.ro ++ Wm.wr (isIn x.ro.name rawL) (rest (ros l) x.ro.depth (t + 1)) ++ (L ⟨#[60, 47]⟩ ++ (L x.ro.name ++ L ⟨#[62]⟩)) := by
                  unfold endW
                  show _ = _ ++ ([60, 47] ++ (L x.ro.name ++ [62]))
                  simp only [List.append_assoc]
                rw [e]; exact hcl5
              · have e := HKL.out.wrt
                rw [H1.out] at e
                rw [← e]
                simp only [List.append_assoc]
              · rw [← hR2.out]; exact HKL.out.len
            case measure => simp [intOf]; omega
        · have hR := rest_stop (l := ros l) (D := D) (s := t) (fun y hy => by rw [HG.out] at hy; injection hy with hy; rw [← hy]; exact hD)
          have HRS := Lib.hid hR
          clear hR x1 x2 x3 x4 hx
          go_wp2
          go_ret
          have h1 := HKL.out.wrt; have h2 := HKL.out.len; have h3 := HKL.out.cl
          rw [HRS.out] at h1 h2
          rw [Wm.wr_nil, List.append_nil] at h1
          rw [h1] at h3
          simp only [List.length_nil, Nat.add_zero] at h2
          exact ⟨by rw [h2]; rfl, h3, HBN.out, HKL.out.k2⟩
      · have hR := rest_stop (l := ros l) (D := D) (s := t) (fun y hy => by have := (List.getElem?_eq_some_iff.1 hy).1; rw [Ro.len_ros] at this; omega)
        have HRS := Lib.hid hR; have HKL := Lib.hid hkl; have HBN := Lib.hid hbN
        clear hR hkl hbN
        go_wp2
        go_ret
        have h1 := HKL.out.wrt; have h2 := HKL.out.len; have h3 := HKL.out.cl
        rw [HRS.out] at h1 h2
        rw [Wm.wr_nil, List.append_nil] at h1
        rw [h1] at h3
        simp only [List.length_nil, Nat.add_zero] at h2
        exact ⟨by rw [h2]; rfl, h3, HBN.out, HKL.out.k2⟩

theorem kids_all (N bl bo bk c : Nat) (A : Option Addr) (l : List Cw) (hl : l.length ≤ 1000000) (hrb : ∀ x ∈ l, rb x.ro ≤ 10000000) : ∀ (n : Nat) (acc : List UInt8) (p D : Int) (s : Nat) (raw : Bool) (w : World), Cl N w bl bo bk A c l acc → Par (ros l) p D s raw → s ≤ l.length → (rest (ros l) D s).length < n → acc.length + (Wm.wr raw (rest (ros l) D s)).length ≤ 70000000000000 →
      Calls Tryz.prog 78 #[.int .i64 p, .pointer (some ⟨bl, 0, none⟩), .pointer (some ⟨bo, 0, none⟩), .pointer (some ⟨bk, 0, none⟩)] w fun e w' => KSays N bl bo bk A c l w acc D s raw e w'
  | 0 => fun _ _ _ _ _ _ _ _ _ h _ => absurd h (Nat.not_lt_zero _)
  | n + 1 => kids_step N bl bo bk c n A l hl hrb (kids_all N bl bo bk c A l hl hrb n)
theorem kids_any (N bl bo bk c : Nat) (A : Option Addr) (l : List Cw) (acc : List UInt8) (p D : Int) (s : Nat) (raw : Bool) (w : World) (hl : l.length ≤ 1000000) (hrb : ∀ x ∈ l, rb x.ro ≤ 10000000) (h : Cl N w bl bo bk A c l acc) (hp : Par (ros l) p D s raw) (hs : s ≤ l.length) (hz : acc.length + (Wm.wr raw (rest (ros l) D s)).length ≤ 70000000000000) :
      Calls Tryz.prog 78 #[.int .i64 p, .pointer (some ⟨bl, 0, none⟩), .pointer (some ⟨bo, 0, none⟩), .pointer (some ⟨bk, 0, none⟩)] w fun e w' => KSays N bl bo bk A c l w acc D s raw e w' :=
  kids_all N bl bo bk c A l hl hrb _ acc p D s raw w h hp hs (Nat.lt_succ_self _) hz

end Go.Proofs.YtgjlfcamgkeibaaGreatDoor.Wr

namespace Go.Proofs.YtgjlfcamgkeibaaGreatDoor.Wr
set_option maxRecDepth 100000
set_option linter.unusedSimpArgs false
set_option linter.unusedVariables false
open Go.RowKit Ba Fm Fo Nm Wm
open Ro (At Ro Cw ros rowO rowV below_new range5 cells)
open To (Kb)
def insideB (l : List Ro) (i : Int) : List UInt8 :=
  if i = -1 then Wm.wr false (rest l (-1) 0)
  else if 0 ≤ i then (match l[i.toNat]? with | some x => if holds x = true then Wm.wr (isIn x.name rawL) (rest l x.depth (i.toNat + 1)) else [] | none => [])
  else []
def goes (l : List Ro) (i : Int) : Bool :=
  decide (i = -1) || (decide (0 ≤ i) && (match l[i.toNat]? with | some x => holds x | none => false))

theorem goes_no {l : List Ro} {i : Int} (h : goes l i = false) : insideB l i = [] := by
  unfold goes at h
  unfold insideB
  rw [Bool.or_eq_false_iff, decide_eq_false_iff_not] at h
  rw [if_neg h.1]
  split
  · rename_i h0
    have h2 := h.2
    rw [decide_eq_true h0, Bool.true_and] at h2
    split
    · rename_i x hx
      rw [hx] at h2
      have h2 : holds x = false := h2
      rw [h2, if_neg (by simp)]
    · rfl
  · rfl
theorem goes_yes {l : List Ro} {i : Int} (h : goes l i = true) : ∃ D s raw, Par l i D s raw ∧ s ≤ l.length ∧ insideB l i = Wm.wr raw (rest l D s) := by
  unfold goes at h
  unfold insideB
  by_cases h1 : i = -1
  · rw [if_pos h1]
    exact ⟨-1, 0, false, .inl ⟨h1, rfl, rfl, rfl⟩, Nat.zero_le _, rfl⟩
  · rw [decide_eq_false h1, Bool.false_or, Bool.and_eq_true, decide_eq_true_iff] at h
    rw [if_neg h1, if_pos h.1]
    have h2 := h.2
    cases hx : l[i.toNat]? with
    | none => rw [hx] at h2; cases h2
    | some x =>
      rw [hx] at h2
      have h2 : holds x = true := h2
      have hlt := (List.getElem?_eq_some_iff.1 hx).1
      refine ⟨x.depth, i.toNat + 1, isIn x.name rawL, .inr ⟨i.toNat, x, by omega, hx, rfl, rfl, rfl⟩, by omega, ?_⟩
      show (if holds x = true then _ else _) = _
      rw [if_pos h2]
theorem goes_in {l : List Ro} {k : Nat} {x : Ro} (hx : l[k]? = some x) : goes l (k : Int) = holds x := by
  unfold goes
  rw [decide_eq_false (by omega), decide_eq_true (by omega), Bool.false_or, Bool.true_and, Int.toNat_natCast, hx]
theorem goes_out {l : List Ro} {i : Int} (h1 : ¬ i = -1) (h2 : ¬ (0 ≤ i ∧ i < l.length)) : goes l i = false := by
  unfold goes
  rw [decide_eq_false h1, Bool.false_or]
  by_cases h0 : 0 ≤ i
  · have : l[i.toNat]? = none := List.getElem?_eq_none (by omega)
    rw [this, Bool.and_false]
  · rw [decide_eq_false h0, Bool.false_and]

theorem ng_no {a n : Bool} (h : a = !n) (h2 : a = false) : n = true := by subst h2; cases n with | false => cases h | true => rfl
theorem ng_yes {a n : Bool} (h : a = !n) (h2 : a = true) : n = false := by subst h2; cases n with | false => rfl | true => cases h

set_option maxRecDepth 100000 in
set_option maxHeartbeats 4000000 in
theorem Inside_any (A : Option Addr) (c : Nat) (l : List Cw) (i : Int) (w : World) (hr : Ro.Rr w w.heap.size A l) (hc : l.length ≤ c) (hl : l.length ≤ 1000000) (hrb : ∀ x ∈ l, rb x.ro ≤ 10000000) (hz : (insideB (ros l) i).length ≤ 70000000000000) :
    Calls Tryz.prog 41 #[.slice A l.length c, .int .i64 i] w fun e w' => e = .returned (.string (B (insideB (ros l) i))) ∧ Below w.heap.size w w' := by
  have HR := Lib.hid hr; have HRB := Lib.hid hrb; have HZ := Lib.hid hz
  clear hr hrb hz
  have hmf : ∀ (fn : Fn) (first cap : Array Value) (w : World), (Instr.makeFunc fn first cap).run Tryz.prog w = .ok (.func fn first cap) w := fun _ _ _ _ => rfl
  go_enter Tryz.func41, Tryz.ntmps41
  go_upto_region 1 with (fail)
  obtain ⟨W1, hW1⟩ : ∃ W1, w.alloc (.cells #[.slice A l.length c] 22) = W1 := ⟨_, rfl⟩
  obtain ⟨bl, hbl⟩ : ∃ bl, w.heap.size = bl := ⟨_, rfl⟩
  have hb1 : Below w.heap.size w W1 := by rw [← hW1]; exact below_new w _
  have hl1 : W1.heap[bl]? = some (.cells #[.slice A l.length c] 22) := by rw [← hW1, ← hbl]; exact heap_alloc_new w _
  have hlt1 : bl < W1.heap.size := (Array.getElem?_eq_some_iff.1 hl1).1
  have hc1 : W1.cell? ⟨bl, 0, none⟩ = some (.slice A l.length c) := by rw [cell_of_row W1 bl 0 _ _ _ hl1]; rfl
  rw [hW1, hbl]
  have HB1 := Lib.hid hb1; have HL1 := Lib.hid hl1; have HBL := Lib.hid hbl
  clear hW1 hb1 hl1 hbl
  obtain ⟨ng, hng⟩ : ∃ ng, goes (ros l) i = !ng := ⟨!goes (ros l) i, by simp⟩
  have HNG := Lib.hid hng
  clear hng
  go_cut [26] from 7 to 26 (fun s26 wx => s26 = .bool ng ∧ Below W1.heap.size W1 wx)
  case first =>
    by_cases h1 : i = -1
    · subst h1
      go_wp2
      go_meet
      exact ⟨by rw [ng_yes HNG.out (by unfold goes; simp)] <;> rfl, Below.refl _ _⟩
    by_cases h2 : 0 ≤ i
    · obtain ⟨k, rfl⟩ : ∃ k : Nat, i = (k : Int) := ⟨i.toNat, by omega⟩
      by_cases h3 : k < l.length
      · obtain ⟨b, off, x, rfl, hb, hdx, hx, hxa, hxm⟩ := Ro.Rr.at_ (HR.out.below HB1.out) k h3
        have hg := goes_in (ros_get hdx)
        obtain ⟨q, hq⟩ : ∃ q, holds x.ro = q := ⟨_, rfl⟩
        have HG := Lib.hid hg; have HQ := Lib.hid hq
        obtain ⟨x0, x1, x2, x3, x4⟩ := range5 hx
        clear hdx hg hq hxa hxm hx
        go_wp2_with fail
        refine (holds_any x W1).mono ?_
        rw [HQ.out]
        rintro e w2 ⟨rfl, hb2⟩
        have HB2 := Lib.hid hb2
        clear hb2
        cases q with
        | true =>
          go_wp2
          go_meet
          exact ⟨by rw [ng_yes HNG.out (HG.out.trans HQ.out)] <;> first | rfl | simp [h1], HB2.out⟩
        | false =>
          go_wp2
          go_meet
          exact ⟨by rw [ng_no HNG.out (HG.out.trans HQ.out)] <;> first | rfl | simp [h1], HB2.out⟩
      · have hg := goes_out (l := ros l) h1 (by rw [Ro.len_ros]; omega)
        have HG := Lib.hid hg
        clear hg
        go_wp2
        go_meet
        exact ⟨by rw [ng_no HNG.out HG.out] <;> first | rfl | simp [h1], Below.refl _ _⟩
    · have hg := goes_out (l := ros l) h1 (by omega)
      have HG := Lib.hid hg
      clear hg
      go_wp2
      go_meet
      exact ⟨by rw [ng_no HNG.out HG.out] <;> first | rfl | simp [h1], Below.refl _ _⟩
  case rest =>
    obtain ⟨rfl, hb2⟩ := hcut
    have HB2 := Lib.hid hb2
    clear hb2 hc1
    cases ng with
    | true =>
      have hno := goes_no HNG.out
      have HN := Lib.hid hno
      clear hno
      go_wp2
      go_ret
      exact ⟨by rw [HN.out]; rfl, HB1.out.trans (HB2.out.mono HB1.out.size)⟩
    | false =>
      obtain ⟨D, s, raw, hp, hs, hins⟩ := goes_yes HNG.out
      rw [Ro.len_ros] at hs
      have HP := Lib.hid hp; have HI := Lib.hid hins
      clear hp hins
      go_upto_region 6 with (fail)
      obtain ⟨W2, hW2⟩ : ∃ W2, wc.alloc (.cells #[.slice none 0 0] 88) = W2 := ⟨_, rfl⟩
      obtain ⟨g, hg⟩ : ∃ g, wc.heap.size = g := ⟨_, rfl⟩
      have hz2 : W2.heap.size = g + 1 := by rw [← hW2, ← hg]; simp
      obtain ⟨W3, hW3⟩ : ∃ W3, W2.alloc (.cells #[Fv bl g (g + 1)] 89) = W3 := ⟨_, rfl⟩
      have hb2 : Below wc.heap.size wc W2 := by rw [← hW2]; exact below_new wc _
      have hb3 : Below W2.heap.size W2 W3 := by rw [← hW3]; exact below_new W2 _
      have ho2 : W2.heap[g]? = some (.cells #[.slice none 0 0] 88) := by rw [← hW2, ← hg]; exact heap_alloc_new wc _
      have ho3 : W3.heap[g]? = some (.cells #[.slice none 0 0] 88) := (hb3.block g (by omega)).trans ho2
      have hk3 : W3.heap[g + 1]? = some (.cells #[Fv bl g (g + 1)] 89) := by rw [← hW3, ← hz2]; exact heap_alloc_new W2 _
      have hb13 : Below W1.heap.size W1 W3 := bt HB2.out (bt hb2 hb3)
      have hl3 : W3.heap[bl]? = some (.cells #[.slice A l.length c] 22) := (hb13.block bl hlt1).trans HL1.out
      have hb03 : Below w.heap.size w W3 := bt HB1.out hb13
      have hgN : w.heap.size ≤ g := by
        rw [← hg]
        exact Nat.le_trans HB1.out.size HB2.out.size
      have hcl : Cl w.heap.size W3 bl g (g + 1) A c l [] := ⟨hl3, ⟨_, ho3, OwnB.nil _ _⟩, hk3, HR.out.below hb03, hgN, hc⟩
      have ck3 := hcl.ck
      rw [hW2, hg, hW3]
      have HCL := Lib.hid hcl; have HB3 := Lib.hid hb03
      clear hW2 hW3 hg hz2 hb2 hb3 ho2 ho3 hk3 hb13 hl3 hb03 hcl hlt1
      have hz0 : ([] : List UInt8).length + (Wm.wr raw (rest (ros l) D s)).length ≤ 70000000000000 := by
        rw [← HI.out]
        have := HZ.out
        simp only [List.length_nil]; omega
      have HZ0 := Lib.hid hz0
      clear hz0
      go_wp2_with fail
      refine (kids_any w.heap.size bl g (g + 1) c A l [] i D s raw W3 hl HRB.out HCL.out HP.out hs HZ0.out).mono ?_
      rintro e w4 ⟨rfl, hcl4, hb4, hk4⟩
      obtain ⟨vo, hco, hown⟩ := hcl4.co
      have hcv := hown.string
      rw [List.nil_append, ← HI.out] at hcv
      have HB4 := Lib.hid (HB3.out.trans hb4)
      clear hcl4 hb4 hk4 hown ck3
      go_wp2
      go_ret
      exact ⟨rfl, HB4.out⟩

theorem Rows_any (A : Option Addr) (c : Nat) (l : List Cw) (w : World) (hr : Ro.Rr w w.heap.size A l) (hc : l.length ≤ c) (hl : l.length ≤ 1000000) (hrb : ∀ x ∈ l, rb x.ro ≤ 10000000) (hz : (insideB (ros l) (-1)).length ≤ 70000000000000) :
    Calls Tryz.prog 22 #[.slice A l.length c] w fun e w' => e = .returned (.string (B (insideB (ros l) (-1)))) ∧ Below w.heap.size w w' := by
  have HR := Lib.hid hr; have HRB := Lib.hid hrb; have HZ := Lib.hid hz
  clear hr hrb hz
  go_enter Tryz.func22, Tryz.ntmps22
  go_wp2_with fail
  refine (Inside_any A c l (-1) w HR.out hc hl HRB.out HZ.out).mono ?_
  rintro e w2 ⟨rfl, hb2⟩
  have HB2 := Lib.hid hb2
  clear hb2
  go_wp2
  go_ret
  exact ⟨rfl, HB2.out⟩

end Go.Proofs.YtgjlfcamgkeibaaGreatDoor.Wr

namespace Go.Proofs.YtgjlfcamgkeibaaGreatDoor.Tm
set_option linter.unusedVariables false
set_option linter.unusedSimpArgs false
open Ba Fm Rm Nm
open Ro (At)
def runF (f : List UInt8 → List UInt8 × Nat) : Nat → List UInt8 → List UInt8
  | 0, _ => []
  | n + 1, l => if l.isEmpty = true then [] else (f l).1 ++ runF f n (l.drop ((f l).2 - 1 + 1))
theorem run_eval (f : List UInt8 → List UInt8 × Nat) : ∀ (n : Nat) (l : List UInt8), l.length ≤ n → run f l = runF f n l
  | 0, l, h => by
    have : l = [] := List.eq_nil_of_length_eq_zero (by omega)
    rw [this, run_nil]
    rfl
  | n + 1, l, h => by
    by_cases he : l = []
    · rw [he, run_nil]; rfl
    · rw [run, dif_neg he]
      have hi : l.isEmpty = false := by simpa using he
      show _ = if l.isEmpty = true then [] else _
      rw [if_neg (by rw [hi]; simp), run_eval f n]
      have : 0 < l.length := List.length_pos_iff.2 he
      rw [List.length_drop]
      omega
def decF (l : List UInt8) : List UInt8 := runF fst l.length l
def escF (q : Bool) (l : List UInt8) : List UInt8 := runF (est q) l.length l
theorem dec_eval : dec = decF := funext fun l => run_eval fst l.length l (Nat.le_refl _)
theorem esc_eval (q : Bool) : esc q = escF q := funext fun l => run_eval (est q) l.length l (Nat.le_refl _)

def valuedF (l : List UInt8) : List UInt8 × List UInt8 :=
  if l.head? = some 61 then (decF (value (trimS (l.drop 1))).1, (value (trimS (l.drop 1))).2) else ([], l)
theorem valued_eval : valued = valuedF := by funext l; unfold valued valuedF; rw [dec_eval]
def attrF (c : UInt8) (r : List UInt8) : At × List UInt8 :=
  (⟨B (lowL (c :: upTo ea r)), B (valuedF (trimS (from_ ea r))).1⟩, (valuedF (trimS (from_ ea r))).2)
theorem attr_eval : attr = attrF := by funext c r; unfold attr attrF; rw [valued_eval]
def attrsF : Nat → Bool → List At → List UInt8 → Option (List At × Bool × List UInt8)
  | 0, _, _, _ => none
  | _ + 1, _, _, [] => none
  | n + 1, self, acc, c :: r => if c = 62 then some (acc, self, r) else if c = 47 ∨ sp c = true then attrsF n (c == 47) acc r else attrsF n false (put acc (attrF c r).1) (attrF c r).2
theorem attrs_eval : ∀ (n : Nat) (self : Bool) (acc : List At) (l : List UInt8), l.length < n → attrs self acc l = attrsF n self acc l
  | 0, _, _, _, h => absurd h (by omega)
  | n + 1, self, acc, [], _ => attrs_nil self acc
  | n + 1, self, acc, c :: r, h => by
    simp only [List.length_cons] at h
    have h3 := len_attr c r
    rw [attrs]
    show _ = if c = 62 then some (acc, self, r) else if c = 47 ∨ sp c = true then attrsF n (c == 47) acc r else attrsF n false (put acc (attrF c r).1) (attrF c r).2
    rw [attrs_eval n _ _ r (by omega), attrs_eval n _ _ (attr c r).2 (by omega), attr_eval]
def contF (n : List UInt8) (l : List UInt8) : List Tk × List UInt8 :=
  if rawB n = true then (txt (lead (isEnd n) l), trail (isEnd n) l)
  else if softB n = true then (txt (decF (lead (isEnd n) l)), trail (isEnd n) l)
  else ([], l)
theorem cont_eval : cont = contF := by funext n l; unfold cont contF; rw [dec_eval]
def startF (l : List UInt8) : List Tk × List UInt8 := match attrsF ((from_ en l).length + 1) false [] (from_ en l) with
  | none => ([], [])
  | some (bs, self, r) => (⟨1, B (lowL (upTo en l)), B [], bs, self⟩ :: (contF (lowL (upTo en l)) r).1, (contF (lowL (upTo en l)) r).2)
def endF (l : List UInt8) : List Tk × List UInt8 := match attrsF ((from_ en l).length + 1) false [] (from_ en l) with
  | none => ([], [])
  | some (bs, self, r) => ([⟨2, B (lowL (upTo en l)), B [], [], false⟩], r)
theorem start_eval : startTag = startF := by funext l; unfold startTag startF; rw [attrs_eval ((from_ en l).length + 1) _ _ _ (Nat.lt_succ_self _), cont_eval]; rfl
theorem end_eval : endTag = endF := by funext l; unfold endTag endF; rw [attrs_eval ((from_ en l).length + 1) _ _ _ (Nat.lt_succ_self _)]; rfl
def mkF (l : List UInt8) : List Tk × List UInt8 :=
  if begun l = 1 then startF (l.drop 1)
  else if begun l = 2 then endF (l.drop 2)
  else if begun l = 3 then ([], l.drop 3)
  else if begun l = 4 then ([⟨3, B [], B (comm (l.drop 4)).1, [], false⟩], (comm (l.drop 4)).2)
  else if begun l = 5 then ([⟨4, B [], B (trimL (closed (l.drop 9)).1), [], false⟩], (closed (l.drop 9)).2)
  else if begun l = 6 then ([⟨3, B [], B (closed (marks (l.drop 1))).1, [], false⟩], (closed (marks (l.drop 1))).2)
  else ([], l)
theorem mk_eval : mk = mkF := by funext l; unfold mk mkF; rw [start_eval, end_eval]
def turnF (l : List UInt8) : List Tk × List UInt8 := (txt (decF (lead bg l)) ++ (mkF (trail bg l)).1, (mkF (trail bg l)).2)
theorem turn_eval : turn = turnF := by funext l; unfold turn turnF; rw [dec_eval, mk_eval]
def cutF : Nat → List UInt8 → List Tk
  | 0, _ => []
  | n + 1, l => if l.isEmpty = true then [] else (turnF l).1 ++ cutF n (turnF l).2
theorem cut_eval : ∀ (n : Nat) (l : List UInt8), l.length ≤ n → cut l = cutF n l
  | 0, l, h => by
    have : l = [] := List.eq_nil_of_length_eq_zero (by omega)
    rw [this]
    exact To.cut_nil
  | n + 1, l, h => by
    by_cases he : l = []
    · rw [he]; exact To.cut_nil
    · have hi : l.isEmpty = false := by simpa using he
      have hl := To.len_turn he
      show _ = if l.isEmpty = true then [] else _
      rw [if_neg (by rw [hi]; simp), To.cut_step he, cut_eval n _ (by omega), turn_eval]
def withinF (n l : List UInt8) : List Tk := (contF n l).1 ++ cutF l.length (contF n l).2
theorem within_eval (n l : List UInt8) : within n l = withinF n l := by
  unfold within withinF
  rw [cut_eval l.length _ (To.len_cont n l), cont_eval]
end Go.Proofs.YtgjlfcamgkeibaaGreatDoor.Tm

namespace Go.Proofs.YtgjlfcamgkeibaaGreatDoor.Bm
set_option linter.unusedVariables false
set_option linter.unusedSimpArgs false
open Ba Fm Nm
open Ro (At Ro)
open Tm (Tk put tx)
def closedF (ns ws : List ByteArray) : Nat → List ByteArray → List ByteArray
  | 0, s => s
  | k + 1, s => match findS ns ws s with
    | none => s
    | some r => closedF ns ws k r
theorem closed_eval (ns ws : List ByteArray) : ∀ (k : Nat) (s : List ByteArray), s.length ≤ k → closedS ns ws s = closedF ns ws k s
  | 0, s, h => by
    obtain rfl : s = [] := List.eq_nil_of_length_eq_zero (by omega)
    rw [closedS_no rfl]
    rfl
  | k + 1, s, h => by
    unfold closedF
    cases hf : findS ns ws s with
    | none => rw [closedS_no hf]
    | some r =>
      rw [closedS_yes hf]
      exact closed_eval ns ws k r (by have := findS_len hf; omega)
def openedF (n : ByteArray) (s : List ByteArray) : List ByteArray :=
  if para n = true then closedF [n_p] (wallsL n_p) s.length (closedF (closesL n) (wallsL n) s.length s) else closedF (closesL n) (wallsL n) s.length s
theorem opened_eval (n : ByteArray) (s : List ByteArray) : openedS n s = openedF n s := by
  unfold openedS openedF
  rw [← closed_eval _ _ s.length s (Nat.le_refl _), ← closed_eval _ _ s.length _ (closedS_end _ _ _).2.length_le]
def stepF (st : St) (t : Tk) : St :=
  if t.kind = 0 then (if t.data = ⟨#[]⟩ then st else ⟨st.stk, addText st.out st.stk.length t.data⟩)
  else if t.kind = 3 then ⟨st.stk, st.out ++ [⟨st.stk.length, 2, ⟨#[]⟩, t.data, []⟩]⟩
  else if t.kind = 1 then (if noName t.name = true then st else ⟨if isIn t.name voidL = true then openedF t.name st.stk else t.name :: openedF t.name st.stk, st.out ++ [⟨(openedF t.name st.stk).length, 0, t.name, ⟨#[]⟩, once t.attrs⟩]⟩)
  else if t.kind = 2 then (if noName t.name = true ∨ isIn t.name voidL = true then st else
    match findS [t.name] (endWalls t.name) st.stk with
    | some r => ⟨r, st.out⟩
    | none => if t.name = n_p then ⟨st.stk, st.out ++ [⟨st.stk.length, 0, n_p, ⟨#[]⟩, []⟩]⟩ else st)
  else st
theorem step_eval (st : St) (t : Tk) : stepB st t = stepF st t := by
  unfold stepB stepF
  rw [← opened_eval]
  rfl
def treeF (st : St) : List Tk → Option (List Ro)
  | [] => some st.out
  | t :: r => if tooBig (stepF st t).out = true then none else treeF (stepF st t) r
theorem tree_eval : ∀ (l : List Tk) (st : St), treeB st l = treeF st l
  | [], st => rfl
  | t :: r, st => by
    show (if tooBig (stepB st t).out = true then none else treeB (stepB st t) r) = (if tooBig (stepF st t).out = true then none else treeF (stepF st t) r)
    rw [step_eval, tree_eval r]
abbrev rE (d : Int) (n : List UInt8) : Ro := ⟨d, 0, B n, ⟨#[]⟩, []⟩
abbrev rT (d : Int) (s : List UInt8) : Ro := ⟨d, 1, ⟨#[]⟩, B s, []⟩
abbrev t1 (n : List UInt8) : Tk := ⟨1, B n, B [], [], false⟩
abbrev t2 (n : List UInt8) : Tk := ⟨2, B n, B [], [], false⟩
end Go.Proofs.YtgjlfcamgkeibaaGreatDoor.Bm
