/-
  Plain mathematics of stage 11: nodes added, taken out, put into others; what stays well-formed, and which trees stay.
  Stage 11: what Load and Clone make of rows, one after the other.
  Stage 11: what the nodes of any script keep: each but the root is right; kids stand in elements and the root alone.
  Walks of stage 4: the kids of a node, by a range over a function (kidsOf).
  Walks of stage 4: Kids, placeOf; boltingref04.Kids.
  Walks of stage 4: boltingref04.Kids, boltinglaw04.nums.
  Stage 11: the reference's document in memory; its Kids.
  Stage 11: the reference's Within.
  Stage 11: what a call may touch; the reference's document as one's own.
  Stage 11: the reference's Remove and set.
  Stage 11: ranks given anew; the reference's document with ranks of its own.
  Stage 11: the reference's set.
  Stage 11: the reference's document with other rows, parents, ranks in its box.
-/
import Derived.Test.YtfnffplnoicjcaaCk01
import Derived.RangeFuncBox
import Derived.RangeFuncLeaves
import Derived.Shelf.Abstract
import Derived.OwnWalkIn
import Derived.TacticsInMore
import Derived.LoopNIn
import Derived.LoopIn
import Derived.Sort.BigQuietIn
import Derived.Maps.AppendAt
import Derived.BigQuiet
import Derived.Deep.QuietTactic
import Derived.Deep.AppendLies
import Derived.Deep.RegionHeld3
import Derived.Deep.DeepCutAuto
namespace Go.Proofs.Ytfnffplnoicjcaa.Ar
set_option linter.unusedSimpArgs false
set_option linter.unusedVariables false
open Ro (At Ro deeper)
/-- Where what a node's tree is made of stays, the tree stays. -/
theorem treeF_congr {M M' : List Nd} : ∀ (f n : Nat) (d : Int), (∀ m, m ∈ idsF M f n → (nd M' m).ro = (nd M m).ro ∧ (nd M' m).kids = (nd M m).kids) → treeF M' f n d = treeF M f n d
  | 0, _, _, _ => rfl
  | f + 1, n, d, h => by
    obtain ⟨h1, h2⟩ := h n (by rw [idsF]; exact List.mem_cons_self)
    rw [treeF, treeF, h1, h2]
    congr 1
    exact flatMap_congr fun k hk => treeF_congr f k (d + 1) fun m hm => h m (by rw [idsF]; exact List.mem_cons_of_mem _ (List.mem_flatMap.2 ⟨k, hk, hm⟩))
theorem tr_congr {M M' : List Nd} (W : Wf M) (W' : Wf M') {n : Nat} (hn : n < M.length) (hn' : n < M'.length) (h : ∀ m, Up M m n → (nd M' m).ro = (nd M m).ro ∧ (nd M' m).kids = (nd M m).kids) (d : Int) : tr M' n d = tr M n d := by
  obtain ⟨g, G⟩ := W.hgt
  obtain ⟨g', G'⟩ := W'.hgt
  have e1 : tr M' n d = treeF M' (M.length + M'.length) n d := by
    have := cnt_lt (M := M') (h := g') hn'
    exact treeF_more G' _ _ n d (by omega) (by omega)
  have c := cnt_lt (M := M) (h := g) hn
  have e2 : tr M n d = treeF M (M.length + M'.length) n d := treeF_more G _ _ n d (by omega) (by omega)
  have e3 : ids M n = idsF M (M.length + M'.length) n := idsF_more G _ _ n (by omega) (by omega)
  rw [e1, e2]
  exact treeF_congr _ n d fun m hm => h m ((ids_up W hn m).1 (by rw [e3]; exact hm))

/-! ### A new node. -/
def addM (M : List Nd) (x : Ro) : List Nd := M ++ [⟨{ x with depth := 0 }, -1, []⟩]
theorem len_add (M : List Nd) (x : Ro) : (addM M x).length = M.length + 1 := by simp [addM]
theorem nd_add (M : List Nd) (x : Ro) (n : Nat) : nd (addM M x) n = if n = M.length then ⟨{ x with depth := 0 }, -1, []⟩ else nd M n := by
  unfold nd addM
  by_cases h : n < M.length
  · rw [List.getElem?_append_left h, if_neg (by omega)]
  · by_cases e : n = M.length
    · rw [if_pos e, List.getElem?_append_right (by omega), e]
      simp
    · rw [if_neg e, List.getElem?_append_right (by omega), List.getElem?_eq_none (by omega : M.length ≤ n)]
      rw [List.getElem?_eq_none (by simp; omega)]
theorem Wf.kid_lt {M : List Nd} (W : Wf M) {p c : Nat} (h : c ∈ (nd M p).kids) : c < M.length ∧ p < M.length := by
  obtain ⟨h1, h2⟩ := (W.kid p c).1 h
  exact ⟨h1, W.up_lt h1 h2⟩
theorem Wf.add {M : List Nd} (W : Wf M) (x : Ro) : Wf (addM M x) := by
  have hp := W.pos
  refine ⟨by rw [len_add]; omega, ?_, fun n => ?_, fun p c => ?_, fun p => ?_, fun n => ?_, ?_⟩
  · rw [nd_add, if_neg (by omega)]
    exact W.root
  · rw [nd_add]
    split
    · exact Int.le_refl _
    · exact W.low n
  · rw [nd_add, nd_add, len_add]
    by_cases e1 : p = M.length
    · rw [if_pos e1]
      constructor
      · intro h; cases h
      · rintro ⟨h1, h2⟩
        split at h2
        · have h2 : (-1 : Int) = p := h2
          omega
        · have hc : c < M.length := by omega
          have := W.up_lt hc h2
          omega
    · rw [if_neg e1]
      constructor
      · intro h
        obtain ⟨h1, h2⟩ := (W.kid p c).1 h
        rw [if_neg (by omega)]
        exact ⟨by omega, h2⟩
      · rintro ⟨h1, h2⟩
        split at h2
        · have h2 : (-1 : Int) = p := h2
          omega
        · exact (W.kid p c).2 ⟨by omega, h2⟩
  · rw [nd_add]
    split
    · exact List.nodup_nil
    · exact W.nodup p
  · rw [nd_add]
    split
    · rfl
    · exact W.flat n
  · obtain ⟨h, H⟩ := W.acyc
    refine ⟨h, fun c p hc hu => ?_⟩
    rw [len_add] at hc
    rw [nd_add] at hu
    split at hu
    · have hu : (-1 : Int) = p := hu
      omega
    · exact H c p (by omega) hu
/-! ### A node taken out of the one that has it. -/
def takeOut (M : List Nd) (n : Nat) : List Nd := M.mapIdx fun m x => ⟨x.ro, if m = n then -1 else x.up, x.kids.filter (· != n)⟩
theorem len_take (M : List Nd) (n : Nat) : (takeOut M n).length = M.length := by simp [takeOut]
theorem nd_take (M : List Nd) (n m : Nat) : nd (takeOut M n) m = ⟨(nd M m).ro, if m = n then -1 else (nd M m).up, (nd M m).kids.filter (· != n)⟩ := by
  unfold nd takeOut
  rw [List.getElem?_mapIdx]
  cases h : M[m]? with
  | none =>
    show nd0 = _
    unfold nd0
    simp
  | some x => rfl
theorem mem_filter_ne {l : List Nat} {n c : Nat} : c ∈ l.filter (· != n) ↔ c ∈ l ∧ c ≠ n := by
  rw [List.mem_filter, bne_iff_ne]
theorem Wf.take {M : List Nd} (W : Wf M) (n : Nat) : Wf (takeOut M n) := by
  refine ⟨by rw [len_take]; exact W.pos, ?_, fun m => ?_, fun p c => ?_, fun p => ?_, fun m => ?_, ?_⟩
  · rw [nd_take]
    show (if 0 = n then (-1 : Int) else (nd M 0).up) = -1
    split
    · rfl
    · exact W.root
  · rw [nd_take]
    show -1 ≤ (if m = n then (-1 : Int) else (nd M m).up)
    split
    · exact Int.le_refl _
    · exact W.low m
  · rw [nd_take, nd_take, len_take, mem_filter_ne, W.kid]
    show _ ↔ c < M.length ∧ (if c = n then (-1 : Int) else (nd M c).up) = p
    constructor
    · rintro ⟨⟨h1, h2⟩, h3⟩
      rw [if_neg h3]
      exact ⟨h1, h2⟩
    · rintro ⟨h1, h2⟩
      by_cases e : c = n
      · rw [if_pos e] at h2
        omega
      · rw [if_neg e] at h2
        exact ⟨⟨h1, h2⟩, e⟩
  · rw [nd_take]
    exact (W.nodup p).filter _
  · rw [nd_take]
    exact W.flat m
  · obtain ⟨h, H⟩ := W.acyc
    refine ⟨h, fun c p hc hu => ?_⟩
    rw [len_take] at hc
    rw [nd_take] at hu
    have hu : (if c = n then (-1 : Int) else (nd M c).up) = p := hu
    split at hu
    · omega
    · exact H c p hc hu

/-! ### A node put into another one. -/
def putAt10 (l : List Nat) (i n : Nat) : List Nat := l.take i ++ n :: l.drop i
theorem mem_put {l : List Nat} {i n c : Nat} : c ∈ putAt10 l i n ↔ c = n ∨ c ∈ l := by
  unfold putAt10
  rw [List.mem_append, List.mem_cons]
  constructor
  · rintro (h | rfl | h)
    · exact .inr (List.mem_of_mem_take h)
    · exact .inl rfl
    · exact .inr (List.mem_of_mem_drop h)
  · rintro (rfl | h)
    · exact .inr (.inl rfl)
    · rw [← List.take_append_drop i l, List.mem_append] at h
      rcases h with h | h
      · exact .inl h
      · exact .inr (.inr h)
theorem nodup_put {l : List Nat} {i n : Nat} (h : l.Nodup) (hn : n ∉ l) : (putAt10 l i n).Nodup := by
  unfold putAt10
  rw [List.nodup_append]
  rw [← List.take_append_drop i l, List.nodup_append] at h
  obtain ⟨h1, h2, h3⟩ := h
  refine ⟨h1, List.nodup_cons.2 ⟨fun h => hn (List.mem_of_mem_drop h), h2⟩, fun a ha b hb e => ?_⟩
  subst e
  rcases List.mem_cons.1 hb with rfl | hb
  · exact hn (List.mem_of_mem_take ha)
  · exact h3 a ha a hb rfl
def setM (M : List Nd) (p i n : Nat) : List Nd := M.mapIdx fun m x => ⟨x.ro, if m = n then (p : Int) else x.up, if m = p then putAt10 (x.kids.filter (· != n)) i n else x.kids.filter (· != n)⟩
theorem len_set (M : List Nd) (p i n : Nat) : (setM M p i n).length = M.length := by simp [setM]
theorem nd_set {M : List Nd} {p i n : Nat} (hp : p < M.length) (hn : n < M.length) (m : Nat) : nd (setM M p i n) m = ⟨(nd M m).ro, if m = n then (p : Int) else (nd M m).up, if m = p then putAt10 ((nd M m).kids.filter (· != n)) i n else (nd M m).kids.filter (· != n)⟩ := by
  unfold nd setM
  rw [List.getElem?_mapIdx]
  cases h : M[m]? with
  | none =>
    have hm : ¬ m < M.length := by
      have := List.getElem?_eq_none_iff.1 h
      omega
    have e1 : m ≠ n := by omega
    have e2 : m ≠ p := by omega
    simp [nd0, e1, e2]
  | some x => rfl
theorem Wf.set {M : List Nd} (W : Wf M) {p n : Nat} (hp : p < M.length) (hn : n < M.length) (h0 : n ≠ 0) (hu : ¬ Up M p n) (i : Nat) : Wf (setM M p i n) := by
  refine ⟨by rw [len_set]; exact W.pos, ?_, fun m => ?_, fun q c => ?_, fun q => ?_, fun m => ?_, ?_⟩
  · rw [nd_set hp hn]
    show (if 0 = n then (p : Int) else (nd M 0).up) = -1
    rw [if_neg (by omega)]
    exact W.root
  · rw [nd_set hp hn]
    show -1 ≤ (if m = n then (p : Int) else (nd M m).up)
    split
    · omega
    · exact W.low m
  · rw [nd_set hp hn, nd_set hp hn, len_set]
    show c ∈ (if q = p then putAt10 ((nd M q).kids.filter (· != n)) i n else (nd M q).kids.filter (· != n)) ↔ c < M.length ∧ (if c = n then (p : Int) else (nd M c).up) = q
    by_cases e : q = p
    · subst e
      rw [if_pos rfl, mem_put, mem_filter_ne, W.kid]
      constructor
      · rintro (rfl | ⟨⟨h1, h2⟩, h3⟩)
        · exact ⟨hn, if_pos rfl⟩
        · rw [if_neg h3]
          exact ⟨h1, h2⟩
      · rintro ⟨h1, h2⟩
        by_cases e : c = n
        · exact .inl e
        · rw [if_neg e] at h2
          exact .inr ⟨⟨h1, h2⟩, e⟩
    · rw [if_neg e, mem_filter_ne, W.kid]
      constructor
      · rintro ⟨⟨h1, h2⟩, h3⟩
        rw [if_neg h3]
        exact ⟨h1, h2⟩
      · rintro ⟨h1, h2⟩
        by_cases e2 : c = n
        · rw [if_pos e2] at h2
          omega
        · rw [if_neg e2] at h2
          exact ⟨⟨h1, h2⟩, e2⟩
  · rw [nd_set hp hn]
    show (if q = p then putAt10 ((nd M q).kids.filter (· != n)) i n else (nd M q).kids.filter (· != n)).Nodup
    split
    · exact nodup_put ((W.nodup q).filter _) fun h => (mem_filter_ne.1 h).2 rfl
    · exact (W.nodup q).filter _
  · rw [nd_set hp hn]
    exact W.flat m
  · obtain ⟨h, H⟩ := W.acyc
    have : ∃ s : Nat → Bool, ∀ m, s m = true ↔ Up M m n := ⟨fun m => @decide (Up M m n) (Classical.propDecidable _), fun m => @decide_eq_true_iff _ (Classical.propDecidable _)⟩
    obtain ⟨s, hs⟩ := this
    refine ⟨fun m => if s m = true then h m + h p + 1 else h m, fun c q hc hcu => ?_⟩
    rw [len_set] at hc
    rw [nd_set hp hn] at hcu
    have hcu : (if c = n then (p : Int) else (nd M c).up) = q := hcu
    show (if s q = true then h q + h p + 1 else h q) < (if s c = true then h c + h p + 1 else h c)
    by_cases e : c = n
    · rw [if_pos e] at hcu
      have e2 : p = q := by omega
      subst e2
      rw [if_neg (fun h => hu ((hs p).1 h)), if_pos ((hs c).2 (by rw [e]; exact .refl hn))]
      omega
    · rw [if_neg e] at hcu
      have h1 := H c q hc hcu
      by_cases hq : s q = true
      · rw [if_pos hq, if_pos ((hs c).2 (.step hc hcu ((hs q).1 hq)))]
        omega
      · have hc2 : ¬ s c = true := fun h2 => by
          rcases up_iff.1 ((hs c).1 h2) with ⟨_, h3 | ⟨q2, h3, h4⟩⟩
          · exact e h3
          · have : q = q2 := by
              have := hcu.symm.trans h3
              omega
            subst this
            exact hq ((hs q).2 h4)
        rw [if_neg hq, if_neg hc2]
        exact h1

/-! ### A node's row changed. -/
def rowM (M : List Nd) (n : Nat) (f : Ro → Ro) : List Nd := M.mapIdx fun m x => if m = n then { x with ro := f x.ro } else x
theorem len_row (M : List Nd) (n : Nat) (f : Ro → Ro) : (rowM M n f).length = M.length := by simp [rowM]
theorem nd_row {M : List Nd} {n : Nat} (hn : n < M.length) (f : Ro → Ro) (m : Nat) : nd (rowM M n f) m = if m = n then { nd M m with ro := f (nd M m).ro } else nd M m := by
  unfold nd rowM
  rw [List.getElem?_mapIdx]
  cases h : M[m]? with
  | none =>
    have hm : ¬ m < M.length := by
      have := List.getElem?_eq_none_iff.1 h
      omega
    rw [if_neg (by omega)]
    rfl
  | some x =>
    show (if m = n then _ else x) = _
    split <;> rfl
theorem Wf.row {M : List Nd} (W : Wf M) {n : Nat} (hn : n < M.length) {f : Ro → Ro} (hf : (f (nd M n).ro).depth = 0) : Wf (rowM M n f) := by
  have hk : ∀ m, (nd (rowM M n f) m).kids = (nd M m).kids := fun m => by rw [nd_row hn]; split <;> rfl
  have hup : ∀ m, (nd (rowM M n f) m).up = (nd M m).up := fun m => by rw [nd_row hn]; split <;> rfl
  refine ⟨by rw [len_row]; exact W.pos, by rw [hup]; exact W.root, fun m => by rw [hup]; exact W.low m, fun p c => by rw [hk, hup, len_row]; exact W.kid p c, fun p => by rw [hk]; exact W.nodup p, fun m => ?_, ?_⟩
  · rw [nd_row hn]
    split
    · rename_i e
      subst e
      exact hf
    · exact W.flat m
  · obtain ⟨h, H⟩ := W.acyc
    exact ⟨h, fun c p hc hu => H c p (by rw [len_row] at hc; exact hc) (by rw [hup] at hu; exact hu)⟩
end Go.Proofs.Ytfnffplnoicjcaa.Ar

namespace Go.Proofs.Ytfnffplnoicjcaa.Ar
set_option linter.unusedSimpArgs false
set_option linter.unusedVariables false
open Ro (At Ro deeper)
/-- Nothing but itself stands within a node that has none. -/
theorem up_alone {M : List Nd} (W : Wf M) {a n : Nat} (hk : (nd M n).kids = []) (h : Up M a n) : a = n := by
  induction h with
  | refl _ => rfl
  | @step a p b ha he hu ih =>
    have hp := ih hk
    subst hp
    have := (W.kid p a).2 ⟨ha, he⟩
    rw [hk] at this
    cases this
/-- The nodes when i rows have been added, each put behind the others of its parent. -/
def loadTo (first : Nat) (l : List Ro) (par : Nat → Int) (M : List Nd) : Nat → List Nd
  | 0 => M
  | i + 1 =>
    if par i < 0 then addM (loadTo first l par M i) ((l[i]?).getD ⟨0, 0, ⟨#[]⟩, ⟨#[]⟩, []⟩)
    else setM (addM (loadTo first l par M i) ((l[i]?).getD ⟨0, 0, ⟨#[]⟩, ⟨#[]⟩, []⟩)) (first + (par i).toNat) (nd (addM (loadTo first l par M i) ((l[i]?).getD ⟨0, 0, ⟨#[]⟩, ⟨#[]⟩, []⟩)) (first + (par i).toNat)).kids.length (first + i)
theorem load_len (first : Nat) (l : List Ro) (par : Nat → Int) (M : List Nd) : ∀ i, (loadTo first l par M i).length = M.length + i
  | 0 => rfl
  | i + 1 => by
    rw [loadTo]
    split
    · rw [len_add, load_len first l par M i]
      omega
    · rw [len_set, len_add, load_len first l par M i]
      omega
theorem filter_new {M : List Nd} (W : Wf M) (x : Ro) (p : Nat) : (nd (addM M x) p).kids.filter (· != M.length) = (nd (addM M x) p).kids := by
  rw [List.filter_eq_self]
  intro c hc
  have W' := W.add x
  have hne : c ≠ M.length := fun e => by
    have h1 := ((W'.kid p c).1 hc).2
    rw [nd_add, if_pos e] at h1
    have : (-1 : Int) = (p : Int) := h1
    omega
  simpa using hne
theorem load_wf {l : List Ro} {par : Nat → Int} {M : List Nd} (W : Wf M) : ∀ i, (∀ j < i, par j < j) → Wf (loadTo M.length l par M i)
  | 0, _ => W
  | i + 1, hp => by
    have W1 := (load_wf (l := l) W i fun j hj => hp j (by omega)).add ((l[i]?).getD ⟨0, 0, ⟨#[]⟩, ⟨#[]⟩, []⟩)
    have hl := load_len M.length l par M i
    have hpi := hp i (by omega)
    have hpos := W.pos
    rw [loadTo]
    by_cases h : par i < 0
    · rw [if_pos h]
      exact W1
    · rw [if_neg h]
      refine W1.set ?_ ?_ ?_ ?_ _
      · rw [len_add, hl]
        omega
      · rw [len_add, hl]
        omega
      · omega
      · intro hu
        have := up_alone W1 (by rw [nd_add, if_pos hl.symm]) hu
        omega
end Go.Proofs.Ytfnffplnoicjcaa.Ar

namespace Go.Proofs.Ytfnffplnoicjcaa.Ar
set_option linter.unusedSimpArgs false
set_option linter.unusedVariables false
open Ro (At Ro deeper okRow rightFrom right)
structure Good (M : List Nd) : Prop where
  row : ∀ k, k ≠ 0 → k < M.length → okRow (nd M k).ro = true
  leaf : ∀ p, p ≠ 0 → (nd M p).ro.kind ≠ 0 → (nd M p).kids = []
theorem kid_not_root {M : List Nd} (W : Wf M) {n k : Nat} (h : k ∈ (nd M n).kids) : k ≠ 0 ∧ k < M.length := by
  obtain ⟨h1, h2⟩ := (W.kid n k).1 h
  refine ⟨fun e => ?_, h1⟩
  rw [e, W.root] at h2
  omega
theorem right_forest {g : Nat → Int → List Ro} {r : List Ro} {d : Int} : ∀ (ks : List Nat), (∀ k ∈ ks, ∀ (m : Int) (r' : List Ro), d ≤ m → (∀ m', d ≤ m' → rightFrom m' r' = true) → rightFrom m (g k d ++ r') = true) → (∀ m', d ≤ m' → rightFrom m' r = true) → ∀ m, d ≤ m → rightFrom m (ks.flatMap (fun k => g k d) ++ r) = true
  | [], _, hr, m, hm => hr m hm
  | k :: ks, hk, hr, m, hm => by
    rw [List.flatMap_cons, List.append_assoc]
    exact hk k (by simp) m _ hm fun m' hm' => right_forest ks (fun k' hk' => hk k' (by simp [hk'])) hr m' hm'
theorem right_tree {M : List Nd} (W : Wf M) (G : Good M) : ∀ (f n : Nat), n ≠ 0 → n < M.length → ∀ (d : Int), 0 ≤ d → ∀ (m : Int) (r : List Ro), d ≤ m → (∀ m', d ≤ m' → rightFrom m' r = true) → rightFrom m (treeF M f n d ++ r) = true
  | 0, n, _, _, d, _, m, r, hm, hr => hr m hm
  | f + 1, n, h0, hn, d, hd, m, r, hm, hr => by
    rw [treeF, List.cons_append, rightFrom]
    have h1 : decide (0 ≤ d) = true := decide_eq_true hd
    have h2 : decide (d ≤ m) = true := decide_eq_true hm
    have h3 : okRow { (nd M n).ro with depth := d } = true := G.row n h0 hn
    show (decide (0 ≤ d) && decide (d ≤ m) && okRow { (nd M n).ro with depth := d } && rightFrom (if (nd M n).ro.kind = 0 then d + 1 else d) _) = true
    rw [h1, h2, h3, Bool.true_and, Bool.true_and, Bool.true_and]
    by_cases hk : (nd M n).ro.kind = 0
    · rw [if_pos hk]
      refine right_forest (g := treeF M f) _ (fun k hkk m' r' hm' hr' => ?_) (fun m' hm' => hr m' (by omega)) (d + 1) (by omega)
      obtain ⟨a, b⟩ := kid_not_root W hkk
      exact right_tree W G f k a b (d + 1) (by omega) m' r' hm' hr'
    · rw [if_neg hk, G.leaf n h0 hk]
      exact hr d (Int.le_refl _)
/-- The rows of any node are right. -/
theorem good_right {M : List Nd} (W : Wf M) (G : Good M) (n : Int) : right (rowsM M n) = true := by
  unfold right rowsM
  split
  · rename_i h
    split
    · have := right_forest (g := tr M) (r := []) (d := 0) (nd M 0).kids (fun k hk m r hm hr => by
        obtain ⟨a, b⟩ := kid_not_root W hk
        exact right_tree W G _ k a b 0 (Int.le_refl _) m r hm hr) (fun _ _ => rfl) 0 (Int.le_refl _)
      rwa [List.append_nil] at this
    · have := right_tree W G M.length n.toNat (by omega) (by omega) 0 (Int.le_refl _) 0 [] (Int.le_refl _) (fun _ _ => rfl)
      rwa [List.append_nil] at this
  · rfl
theorem Good.add {M : List Nd} (W : Wf M) (G : Good M) {x : Ro} (hx : okRow x = true) : Good (addM M x) := by
  refine ⟨fun k h0 hk => ?_, fun p h0 hp => ?_⟩
  · rw [nd_add]
    split
    · exact hx
    · rename_i h
      rw [len_add] at hk
      exact G.row k h0 (by omega)
  · rw [nd_add] at hp ⊢
    split
    · rfl
    · rename_i h
      rw [if_neg h] at hp
      exact G.leaf p h0 hp
theorem Good.take {M : List Nd} (G : Good M) (n : Nat) : Good (takeOut M n) := by
  refine ⟨fun k h0 hk => ?_, fun p h0 hp => ?_⟩
  · rw [nd_take]
    rw [len_take] at hk
    exact G.row k h0 hk
  · rw [nd_take] at hp ⊢
    show (nd M p).kids.filter _ = []
    rw [G.leaf p h0 hp]
    rfl
theorem Good.set {M : List Nd} (G : Good M) {p n : Nat} (hp : p < M.length) (hn : n < M.length) (hk : p ≠ 0 → (nd M p).ro.kind = 0) (i : Nat) : Good (setM M p i n) := by
  refine ⟨fun k h0 hk => ?_, fun q h0 hq => ?_⟩
  · rw [nd_set hp hn]
    rw [len_set] at hk
    exact G.row k h0 hk
  · rw [nd_set hp hn] at hq ⊢
    show (if q = p then putAt10 ((nd M q).kids.filter (· != n)) i n else (nd M q).kids.filter (· != n)) = []
    have hq' : (nd M q).ro.kind ≠ 0 := hq
    by_cases e : q = p
    · exact absurd (hk (e ▸ h0)) (e ▸ hq')
    · rw [if_neg e, G.leaf q h0 hq']
      rfl
theorem Good.row_ {M : List Nd} (G : Good M) {n : Nat} (hn : n < M.length) {f : Ro → Ro} (hf : okRow (f (nd M n).ro) = true) (hk : (f (nd M n).ro).kind = (nd M n).ro.kind) : Good (rowM M n f) := by
  refine ⟨fun k h0 hkl => ?_, fun p h0 hp => ?_⟩
  · rw [nd_row hn]
    rw [len_row] at hkl
    split
    · rename_i e
      subst e
      exact hf
    · exact G.row k h0 hkl
  · rw [nd_row hn] at hp ⊢
    split
    · rename_i e
      subst e
      rw [if_pos rfl] at hp
      exact G.leaf p h0 (by rw [← hk]; exact hp)
    · rename_i e
      rw [if_neg e] at hp
      exact G.leaf p h0 hp
end Go.Proofs.Ytfnffplnoicjcaa.Ar

namespace Go.Proofs.Ytfnffplnoicjcaa.Ro
set_option linter.unusedVariables false
set_option linter.unusedSimpArgs false
open Go.RowKit Ba Go.Shelf
attribute [local go_sem] Oper.semAt_some

/-- The places, from k on, of those that stand just at depth d. -/
def kidsFrom (d : Int) : Nat → List Ro → List Nat
  | _, [] => []
  | k, x :: r => if x.depth = d then k :: kidsFrom d (k + 1) r else kidsFrom d (k + 1) r
def kids (l : List Ro) (i : Int) : List Nat := kidsFrom (dep l i + 1) (i + 1).toNat (below l i)

/-- What a round leaves as it was: what lay below n₀, and the two boxes of the iterator. -/
def Kp (n₀ B1 B2 : Nat) (W W' : World) : Prop := Below n₀ W W' ∧ W'.heap[B1]? = W.heap[B1]? ∧ W'.heap[B2]? = W.heap[B2]?
theorem Kp.t {n₀ B1 B2 : Nat} {A B C : World} (h : Kp n₀ B1 B2 A B) (k : Kp n₀ B1 B2 B C) : Kp n₀ B1 B2 A C := ⟨h.1.trans k.1, k.2.1.trans h.2.1, k.2.2.trans h.2.2⟩
theorem Kp.b {n₀ B1 B2 : Nat} {w : World} (hn : n₀ ≤ w.heap.size) (h1 : B1 < w.heap.size) (h2 : B2 < w.heap.size) (W : World) (l : Nat) (o o' : Obj) (hl : w.heap.size ≤ l) (h : W.heap[l]? = some o) (hc : o.isCells = false) (hw : o.isWalk = false) : Kp n₀ B1 B2 W (W.putObj l o') :=
  ⟨belowK_b hn W l o o' hl h hc hw, World.putObj_heap_other (by omega), World.putObj_heap_other (by omega)⟩

theorem kids_hit {d : Int} {k : Nat} {x : Ro} {r : List Ro} (h : x.depth = d) : kidsFrom d k (x :: r) = k :: kidsFrom d (k + 1) r := if_pos h
theorem kids_miss {d : Int} {k : Nat} {x : Ro} {r : List Ro} (h : ¬ x.depth = d) : kidsFrom d k (x :: r) = kidsFrom d (k + 1) r := if_neg h
end Go.Proofs.Ytfnffplnoicjcaa.Ro

namespace Go.Proofs.Ytfnffplnoicjcaa.Ro
set_option maxRecDepth 100000
set_option linter.unusedVariables false
set_option linter.unusedSimpArgs false
open Go.RowKit Ba Go.Shelf
attribute [local go_sem] Oper.semAt_some

theorem infoI : (Try.prog.info? 3).map (fun i => (i.zero, i.size, i.bytes)) = some (some (.int .i64 0), 1, 8) := by kernel_rfl
/-- A number as a value. -/
def nv (k : Nat) : Value := .int .i64 k
end Go.Proofs.Ytfnffplnoicjcaa.Ro

namespace Go.Proofs.Ytfnffplnoicjcaa.Ro
set_option maxRecDepth 100000
set_option linter.unusedVariables false
set_option linter.unusedSimpArgs false
open Go.RowKit Ba
/-- v is a slice of numbers of the call's own. -/
def Nw (N : Nat) (w : World) (v : Value) (l : List Nat) : Prop := w.ownsRow N 3 1 v l.length (l.map nv)
theorem Nw.made (w : World) : Nw w.heap.size (w.alloc (.cells #[] 3)) (.slice (some ⟨w.heap.size, 0, none⟩) 0 0) [] := World.ownsRow_made w #[] 0 (Nat.le_refl _) (Nat.zero_le _) rfl
theorem Nw.alloc {N : Nat} {w : World} {v : Value} {l : List Nat} (h : Nw N w v l) (o : Obj) : Nw N (w.alloc o) v l := World.ownsRow.alloc h o
theorem Nw.below {N M : Nat} {w w' : World} {v : Value} {l : List Nat} (h : Nw N w v l) (hb : Below M w w') (hM : w.heap.size ≤ M := by exact Nat.le_refl _) : Nw N w' v l := by
  refine ⟨h.1, ?_⟩
  rcases h.2 with hn | ⟨g, cap, cur, hv, hg, hh, rest⟩
  · exact .inl hn
  · refine .inr ⟨g, cap, cur, hv, hg, ?_, rest⟩
    have hlt : g < w.heap.size := (Array.getElem?_eq_some_iff.1 hh).1
    rw [hb.block g (by omega)]
    exact hh
/-- It reads as these numbers. -/
def Rn (w : World) (N : Nat) (A : Option Addr) (l : List Nat) : Prop := 0 < l.length → ∃ b off, A = some ⟨b, off, none⟩ ∧ b < N ∧ ∀ j (h : j < l.length), w.cell? ⟨b, off + j, none⟩ = some (.int .i64 (l[j] : Nat))
theorem Rn.below {w w' : World} {N M : Nat} {A : Option Addr} {l : List Nat} (h : Rn w N A l) (hb : Below M w w') (hN : N ≤ M := by exact Nat.le_refl _) : Rn w' N A l := fun h0 => by
  obtain ⟨b, off, e, hb1, hc⟩ := h h0
  exact ⟨b, off, e, hb1, fun j hj => (hb.cell (p := ⟨b, off + j, none⟩) (by show b < M; omega)).trans (hc j hj)⟩
theorem Nw.form {N : Nat} {w : World} {v : Value} {l : List Nat} (h : Nw N w v l) : ∃ A c, v = .slice A l.length c ∧ l.length ≤ c ∧ c ≤ maxLen ∧ Rn w w.heap.size A l := by
  rcases h.2 with ⟨hv, hl⟩ | ⟨g, cap, cur, hv, hg, hh, hn, hm, hs, ht⟩
  · have : l = [] := List.eq_nil_of_length_eq_zero hl
    subst this
    exact ⟨none, 0, hv, Nat.le_refl _, Nat.zero_le _, fun h => absurd h (by simp)⟩
  · refine ⟨some ⟨g, 0, none⟩, cap, hv, hn, hm, fun _ => ⟨g, 0, rfl, (Array.getElem?_eq_some_iff.1 hh).1, fun j hj => ?_⟩⟩
    subst hv
    have := World.ownsRow.cells h rfl j (nv l[j]) (by simp [hj])
    rw [WideShapes.add_plain] at this
    exact this
/-- append of one number, in a block of its own. -/
theorem app_num {ops : Array Oper} {rest : List Oper} {o : Oper} {a : Act} {Q : Exit → Act → World → Prop} (w : World) (hgd : o.guard = none) (s x : Operand)
    (ho : o.op = .call { callee := .builtin .append, args := #[s, x], argTypes := #[29, 29] })
    (N : Nat) (v : Value) (l : List Nat) (y : Nat) (hs : a.eval s = v) (hown : Nw N w v l) (g : Nat) (hg : g = w.heap.size) (hx : a.eval x = .slice (some ⟨g, 0, none⟩) 1 1)
    (hl : l.length ≤ 2000000) (hN : N ≤ w.heap.size)
    (h : ∀ v' w', Nw N w' v' (l ++ [y]) → (∀ w0, Below N w0 w → Below N w0 w') → wpList Try.prog ops Q rest (a.put o.dst v') w') :
    wpList Try.prog ops Q (o :: rest) a (w.alloc (.cells #[.int .i64 (y : Nat)] 3)) := by
  subst hg
  obtain ⟨i0, hi, hz0, hz1, hz2⟩ := info_parts infoI
  have hown' : Nw N (w.alloc (.cells #[.int .i64 (y : Nat)] 3)) v l := hown.alloc _
  have hsz : (w.alloc (.cells #[.int .i64 (y : Nat)] 3)).heap.size = w.heap.size + 1 := by simp
  refine wpList_append_own _ hgd s x 29 ho N 3 i0 (.int .i64 0) 1 8 Try.underlying29 hi hz0 hz1 hz2 rfl (by decide) v l.length (l.map nv) hs hown' ⟨w.heap.size, 0, none⟩ 1 1 [.int .i64 (y : Nat)] hx rfl (cell_one_new _ _ _) (by intro u hu; simp at hu; subst hu; rfl) (by unfold maxLen; omega) (by omega) (by omega) ?_
  intro v' w' ho2 hg2 _
  refine h v' w' ?_ fun w0 hb => (hb.alloc hN _).grown hg2 (by omega) fun k hk => (World.ownsRow.lt hown' k hk).1
  unfold Nw
  rw [List.length_append, List.map_append]
  exact ho2

end Go.Proofs.Ytfnffplnoicjcaa.Ro

namespace Go.Proofs.Ytfnffplnoicjcaa.Ar
set_option maxRecDepth 100000
set_option linter.unusedSimpArgs false
set_option linter.unusedVariables false
open Go.RowKit Ba
open Ro (At Ro Cw ros Rr Ow Nw app_num below_new)
/-! ### Ranks. -/
def rkAt (rk : List Int) (c : Nat) : Int := (rk[c]?).getD 0
/-- Ranks rise along each node's kids. -/
structure Rf (M : List Nd) (rk : List Int) : Prop where
  len : rk.length = M.length
  low : ∀ c, 0 ≤ rkAt rk c
  rise : ∀ p, ((nd M p).kids.map (rkAt rk)).Pairwise (· < ·)
def kidsI (M : List Nd) (n : Int) : List Nat := if 0 ≤ n then (nd M n.toNat).kids else []
theorem rise_at {rk : List Int} {ks : List Nat} (h : (ks.map (rkAt rk)).Pairwise (· < ·)) {i j : Nat} (hij : i < j) (hj : j < ks.length) : rkAt rk (ks[i]'(by omega)) < rkAt rk ks[j] := by
  have := List.pairwise_iff_getElem.1 h i j (by simp; omega) (by simpa using hj) hij
  simpa using this
/-- Those that may come next: kids of a rank above the last one. -/
def Cand (M : List Nd) (rk : List Int) (n last : Int) (i : Nat) : Prop := i < M.length ∧ (nd M i).up = n ∧ last < rkAt rk i
def Best (M : List Nd) (rk : List Int) (n last : Int) (j : Nat) (best : Int) : Prop :=
  (best = -1 ∧ ∀ i < j, ¬ Cand M rk n last i) ∨ ∃ b : Nat, b < j ∧ best = b ∧ Cand M rk n last b ∧ ∀ i < j, Cand M rk n last i → rkAt rk b ≤ rkAt rk i
def Last (ks : List Nat) (rk : List Int) (t : Nat) (last : Int) : Prop := ∀ j (h : j < ks.length), t ≤ j ↔ last < rkAt rk ks[j]
theorem best_none {M : List Nd} {rk : List Int} {n last : Int} {j : Nat} {best : Int} (h : Best M rk n last j best) (hc : ¬ Cand M rk n last j) : Best M rk n last (j + 1) best := by
  rcases h with ⟨h1, h2⟩ | ⟨b, h1, h2, h3, h4⟩
  · refine .inl ⟨h1, fun i hi => ?_⟩
    rcases Nat.lt_succ_iff_lt_or_eq.1 hi with hi | rfl
    · exact h2 i hi
    · exact hc
  · refine .inr ⟨b, by omega, h2, h3, fun i hi hci => ?_⟩
    rcases Nat.lt_succ_iff_lt_or_eq.1 hi with hi | rfl
    · exact h4 i hi hci
    · exact absurd hci hc
theorem best_first {M : List Nd} {rk : List Int} {n last : Int} {j : Nat} (h : Best M rk n last j (-1)) (hc : Cand M rk n last j) : Best M rk n last (j + 1) j := by
  rcases h with ⟨_, h2⟩ | ⟨b, _, h2, _⟩
  · refine .inr ⟨j, by omega, rfl, hc, fun i hi hci => ?_⟩
    rcases Nat.lt_succ_iff_lt_or_eq.1 hi with hi | rfl
    · exact absurd hci (h2 i hi)
    · exact Int.le_refl _
  · omega
theorem best_less {M : List Nd} {rk : List Int} {n last : Int} {j b : Nat} (h : Best M rk n last j b) (hc : Cand M rk n last j) (hl : rkAt rk j < rkAt rk b) : Best M rk n last (j + 1) j := by
  rcases h with ⟨h1, _⟩ | ⟨b', _, h2, _, h4⟩
  · omega
  · have : b = b' := by omega
    subst this
    refine .inr ⟨j, by omega, rfl, hc, fun i hi hci => ?_⟩
    rcases Nat.lt_succ_iff_lt_or_eq.1 hi with hi | rfl
    · have := h4 i hi hci
      omega
    · exact Int.le_refl _
theorem best_more {M : List Nd} {rk : List Int} {n last : Int} {j b : Nat} (h : Best M rk n last j b) (hl : ¬ rkAt rk j < rkAt rk b) : Best M rk n last (j + 1) b := by
  rcases h with ⟨h1, _⟩ | ⟨b', h1, h2, h3, h4⟩
  · omega
  · have : b = b' := by omega
    subst this
    refine .inr ⟨b, by omega, rfl, h3, fun i hi hci => ?_⟩
    rcases Nat.lt_succ_iff_lt_or_eq.1 hi with hi | rfl
    · exact h4 i hi hci
    · omega
theorem best_end {M : List Nd} (W : Wf M) {rk : List Int} (R : Rf M rk) {n : Nat} {last best : Int} {t : Nat} (hl : Last (nd M n).kids rk t last) (ht : t ≤ (nd M n).kids.length) (h : Best M rk n last M.length best) :
    (best = -1 ∧ t = (nd M n).kids.length) ∨ ∃ b : Nat, best = b ∧ (nd M n).kids[t]? = some b ∧ b < M.length ∧ Last (nd M n).kids rk (t + 1) (rkAt rk b) := by
  have cand : ∀ j (hj : j < (nd M n).kids.length), t ≤ j → Cand M rk n last (nd M n).kids[j] := fun j hj htj => by
    obtain ⟨h1, h2⟩ := (W.kid n _).1 (List.getElem_mem hj)
    exact ⟨h1, h2, (hl j hj).1 htj⟩
  rcases h with ⟨h1, h2⟩ | ⟨b, h1, h2, ⟨c1, c2, c3⟩, h4⟩
  · refine .inl ⟨h1, ?_⟩
    apply Decidable.byContradiction
    intro hne
    have hlt : t < (nd M n).kids.length := by omega
    have := cand t hlt (Nat.le_refl _)
    exact h2 _ this.1 this
  · have hb : b ∈ (nd M n).kids := (W.kid n b).2 ⟨c1, c2⟩
    obtain ⟨s, hs, rfl⟩ := List.getElem_of_mem hb
    have hts := (hl s hs).2 c3
    have hst : s = t := by
      apply Decidable.byContradiction
      intro hne
      have h5 := cand t (by omega) (Nat.le_refl _)
      have h6 := h4 _ h5.1 h5
      have h7 := rise_at (R.rise n) (show t < s by omega) hs
      omega
    subst hst
    refine .inr ⟨_, h2, List.getElem?_eq_getElem hs, c1, fun j hj => ?_⟩
    constructor
    · intro h
      exact rise_at (R.rise n) (by omega) hj
    · intro h
      apply Decidable.byContradiction
      intro hn
      rcases Nat.lt_or_eq_of_le (show j ≤ s by omega) with h8 | h8
      · have := rise_at (R.rise n) h8 hs
        omega
      · subst h8
        omega

/-! ### In memory. -/
/-- Numbers from the beginning of a block on. -/
def Li (w : World) (g : Nat) (l : List Int) : Prop := g < w.heap.size ∧ ∀ j (h : j < l.length), w.cell? ⟨g, j, none⟩ = some (.int .i64 l[j])
theorem Li.below {w w' : World} {g : Nat} {l : List Int} (h : Li w g l) (hb : Below w.heap.size w w') : Li w' g l :=
  ⟨Nat.lt_of_lt_of_le h.1 hb.size, fun j hj => (hb.cell (p := ⟨g, j, none⟩) h.1).trans (h.2 j hj)⟩
/-- The reference's document, to be read: its three slices. -/
structure Rd11 (w : World) (p : Nat) (M : List Nd) (rk : List Int) (gX cX gU cU gR cR : Nat) (lX : List Cw) : Prop where
  lt : p < w.heap.size
  x : w.cell? ⟨p, 0, none⟩ = some (.slice (some ⟨gX, 0, none⟩) M.length cX)
  u : w.cell? ⟨p, 1, none⟩ = some (.slice (some ⟨gU, 0, none⟩) M.length cU)
  r : w.cell? ⟨p, 2, none⟩ = some (.slice (some ⟨gR, 0, none⟩) M.length cR)
  rows : Rr w w.heap.size (some ⟨gX, 0, none⟩) lX
  same : ros lX = M.map Nd.ro
  ups : Li w gU (M.map Nd.up)
  ranks : Li w gR rk
theorem Rd11.below {w w' : World} {p : Nat} {M : List Nd} {rk : List Int} {gX cX gU cU gR cR : Nat} {lX : List Cw} (h : Rd11 w p M rk gX cX gU cU gR cR lX) (hb : Below w.heap.size w w') : Rd11 w' p M rk gX cX gU cU gR cR lX :=
  ⟨Nat.lt_of_lt_of_le h.lt hb.size, (hb.cell (p := ⟨p, 0, none⟩) h.lt).trans h.x, (hb.cell (p := ⟨p, 1, none⟩) h.lt).trans h.u, (hb.cell (p := ⟨p, 2, none⟩) h.lt).trans h.r, (h.rows.below hb).more hb.size, h.same, h.ups.below hb, h.ranks.below hb⟩
theorem ups_at {w : World} {g : Nat} {M : List Nd} (h : Li w g (M.map Nd.up)) {j : Nat} (hj : j < M.length) : w.cell? ⟨g, j, none⟩ = some (.int .i64 (nd M j).up) := by
  have := h.2 j (by simpa using hj)
  rw [this, List.getElem_map, nd_at hj]
theorem ranks_at {w : World} {g : Nat} {rk : List Int} (h : Li w g rk) {j : Nat} (hj : j < rk.length) : w.cell? ⟨g, j, none⟩ = some (.int .i64 (rkAt rk j)) := by
  have := h.2 j hj
  rw [this]
  unfold rkAt
  rw [List.getElem?_eq_getElem hj]
  rfl
theorem kidsI_nat (M : List Nd) (n : Nat) : kidsI M n = (nd M n).kids := by
  unfold kidsI
  rw [if_pos (by omega)]
  rfl
set_option maxRecDepth 100000 in
set_option maxHeartbeats 4000000 in
theorem refKids_neg {p : Nat} {M : List Nd} {rk : List Int} {gX cX gU cU gR cR : Nat} {lX : List Cw} (n : Int) (hn : n < 0) (w : World) (D : Rd11 w p M rk gX cX gU cU gR cR lX) (W : Wf M) :
    Calls Try.prog 65 #[.pointer (some ⟨p, 0, none⟩), .int .i64 n] w fun e w' => ∃ v, e = .returned v ∧ Nw w.heap.size w' v [] ∧ Below w.heap.size w w' := by
  have hb := below_new w (.cells #[] 3)
  have D' := D.below hb
  have hx := D'.x
  have hpos := W.pos
  have ho := Ro.Nw.made w
  have HO := Lib.hid ho; have HB := Lib.hid hb
  clear D D' ho hb
  have hn' : ¬ (0 : Int) ≤ n := by omega
  go_enter Try.func65, Try.ntmps65
  go_wp2
  refine wp_loop_rounds 1 ?_
  rw [rounds_succ]
  go_wp2
  refine wp_loop_rounds 1 ?_
  rw [rounds_succ]
  go_wp2
  go_ret
  exact ⟨_, rfl, HO.out, HB.out⟩
def lenV : Value → Nat | .slice _ n _ => n | _ => 0
set_option maxRecDepth 100000 in
set_option maxHeartbeats 4000000 in
theorem refKids_nat {p : Nat} {M : List Nd} {rk : List Int} {gX cX gU cU gR cR : Nat} {lX : List Cw} (n : Nat) (w : World) (D : Rd11 w p M rk gX cX gU cU gR cR lX) (W : Wf M) (R : Rf M rk) (hm : M.length ≤ 5000) :
    Calls Try.prog 65 #[.pointer (some ⟨p, 0, none⟩), .int .i64 n] w fun e w' => ∃ v, e = .returned v ∧ Nw w.heap.size w' v (nd M n).kids ∧ Below w.heap.size w w' := by
  have HD := Lib.hid D
  have hks : (nd M n).kids.length ≤ 5000 := Nat.le_trans (nodup_bound (W.nodup n) fun x hx => ((W.kid n x).1 hx).1) hm
  clear D
  go_enter Try.func65, Try.ntmps65
  go_wp2
  go_loopw [5, 6] (fun v la wr => ∃ (v5 : Value) (t : Nat) (last : Int), v5 = v ∧ la = .int .i64 last ∧ t ≤ (nd M n).kids.length ∧ Nw w.heap.size wr v5 ((nd M n).kids.take t) ∧ Hid (Last (nd M n).kids rk t last) ∧ Below w.heap.size w wr) (fun v _ _ => (nd M n).kids.length - lenV v)
  case atStart =>
    refine ⟨_, 0, -1, rfl, rfl, Nat.zero_le _, Ro.Nw.made w, Lib.hid (fun j hj => ⟨fun _ => ?_, fun _ => Nat.zero_le _⟩), below_new w _⟩
    have := R.low (nd M n).kids[j]
    omega
  case round =>
    obtain ⟨v5, t, last, rfl, rfl, ht, hown, hlast, hbel⟩ := hrel
    obtain ⟨wo, rfl⟩ : ∃ x, x = wr := ⟨_, rfl⟩
    have HOW := Lib.hid hown; have HBE := Lib.hid hbel
    have HDo := Lib.hid (HD.out.below hbel)
    have hsz := hbel.size
    clear hown hbel
    go_wp2
    go_loopw [7, 8] (fun be i wr => ∃ (j : Nat) (best : Int), i = .int .i64 j ∧ be = .int .i64 best ∧ j ≤ M.length ∧ Hid (Best M rk n last j best) ∧ Below wo.heap.size wo wr) (fun _ i _ => M.length - (intOf i).toNat)
    case atStart => exact ⟨0, -1, rfl, rfl, Nat.zero_le _, Lib.hid (.inl ⟨rfl, fun i hi => absurd hi (Nat.not_lt_zero _)⟩), Below.refl _ _⟩
    case round =>
      obtain ⟨j, best, rfl, rfl, hj, hbest, hb2⟩ := hrel
      have D := HDo.out.below hb2
      have hx := D.x
      have HB2 := Lib.hid hb2
      by_cases hp : j < M.length
      · have hu := D.u
        have hr := D.r
        have hcu := ups_at D.ups hp
        have hcr := ranks_at D.ranks (j := j) (by rw [R.len]; exact hp)
        have hji : (j : Int) < M.length := by omega
        by_cases c1 : (nd M j).up = n
        · by_cases c2 : last < rkAt rk j
          · have hcand : Cand M rk n last j := ⟨hp, c1, c2⟩
            obtain ⟨y, hy⟩ : ∃ y, rkAt rk j = y := ⟨_, rfl⟩
            rw [c1] at hcu
            rw [hy] at hcr c2
            have d2 : decide (last < y) = true := decide_eq_true c2
            have hlow : -1 ≤ best := by
              rcases hbest.out with ⟨h1, _⟩ | ⟨b, _, h2, _⟩ <;> omega
            by_cases c3 : best < 0
            · obtain rfl : best = -1 := by omega
              have hnb := Lib.hid (best_first hbest.out hcand)
              clear D hb2 hcand hbest hy c1 hlow
              go_wp2
              go_quiet (fail)
              go_wp2
              go_roundw
              case rel => exact ⟨j + 1, j, by go_num, rfl, by omega, hnb, HB2.out.trans ((Ba.below_drewN wr _).mono HB2.out.size)⟩
              case measure => (simp [intOf]; try omega)
            · obtain ⟨b, rfl⟩ : ∃ b : Nat, best = b := ⟨best.toNat, by omega⟩
              have hbj : b < j := by
                rcases hbest.out with ⟨h1, _⟩ | ⟨b', h1, h2, _⟩ <;> omega
              have hcb := ranks_at D.ranks (j := b) (by rw [R.len]; omega)
              obtain ⟨z, hz⟩ : ∃ z, rkAt rk b = z := ⟨_, rfl⟩
              rw [hz] at hcb
              have hbi : (b : Int) < M.length := by omega
              have d3 : decide ((b : Int) < 0) = false := decide_eq_false (by omega)
              by_cases c4 : y < z
              · have hnb := Lib.hid (best_less hbest.out hcand (by rw [hy, hz]; exact c4))
                have d4 : decide (y < z) = true := decide_eq_true c4
                clear D hb2 hcand hbest hy c1 hlow c3 hz
                go_wp2
                go_quiet (fail)
                go_wp2
                go_roundw
                case rel => exact ⟨j + 1, j, by go_num, rfl, by omega, hnb, HB2.out.trans ((Ba.below_drewN wr _).mono HB2.out.size)⟩
                case measure => (simp [intOf]; try omega)
              · have hnb := Lib.hid (best_more hbest.out (by rw [hy, hz]; exact c4))
                have d4 : decide (y < z) = false := decide_eq_false c4
                clear D hb2 hcand hbest hy c1 hlow c3 hz
                go_wp2
                go_quiet (fail)
                go_wp2
                go_roundw
                case rel => exact ⟨j + 1, b, by go_num, rfl, by omega, hnb, HB2.out.trans ((Ba.below_drewN wr _).mono HB2.out.size)⟩
                case measure => (simp [intOf]; try omega)
          · have hnc : ¬ Cand M rk n last j := fun h => c2 h.2.2
            have hnb := Lib.hid (best_none hbest.out hnc)
            obtain ⟨y, hy⟩ : ∃ y, rkAt rk j = y := ⟨_, rfl⟩
            rw [c1] at hcu
            rw [hy] at hcr c2
            have d2 : decide (last < y) = false := decide_eq_false c2
            clear D hb2 hnc hbest hy c1
            go_wp2
            go_quiet (fail)
            go_wp2
            go_roundw
            case rel => exact ⟨j + 1, best, by go_num, rfl, by omega, hnb, HB2.out.trans ((Ba.below_drewN wr _).mono HB2.out.size)⟩
            case measure => (simp [intOf]; try omega)
        · have hnc : ¬ Cand M rk n last j := fun h => c1 h.2.1
          have hnb := Lib.hid (best_none hbest.out hnc)
          obtain ⟨y, hy⟩ : ∃ y, (nd M j).up = y := ⟨_, rfl⟩
          rw [hy] at hcu c1
          have d1 : decide (y = (n : Int)) = false := decide_eq_false c1
          have e1 : (y == (n : Int)) = false := by simpa using c1
          clear D hb2 hnc hbest hy
          go_wp2
          go_quiet (fail)
          go_wp2
          go_roundw
          case rel => exact ⟨j + 1, best, by go_num, rfl, by omega, hnb, HB2.out.trans ((Ba.below_drewN wr _).mono HB2.out.size)⟩
          case measure => (simp [intOf]; try omega)
      · obtain rfl : j = M.length := by omega
        rcases best_end W R hlast.out ht hbest.out with ⟨rfl, ht2⟩ | ⟨b, rfl, hkb, hbl, hla⟩
        · have HT := Lib.hid ht2
          have HB3 := Lib.hid (HBE.out.trans (HB2.out.mono hsz))
          have HN := Lib.hid (HOW.out.below HB2.out)
          clear D hb2 hbest ht2
          go_wp2
          go_ret
          exact ⟨_, rfl, by have h := HN.out; rw [HT.out, List.take_length] at h; exact h, HB3.out⟩
        · have hcr := ranks_at D.ranks (j := b) (by rw [R.len]; exact hbl)
          have hr := D.r
          have hst : (nd M n).kids.take (t + 1) = (nd M n).kids.take t ++ [b] := by rw [List.take_add_one, hkb]; rfl
          have htl : t < (nd M n).kids.length := (List.getElem?_eq_some_iff.1 hkb).1
          have HN := Lib.hid (HOW.out.below HB2.out)
          have HB3 := Lib.hid (HBE.out.trans (HB2.out.mono hsz))
          have hacc : ((nd M n).kids.take t).length ≤ 2000000 := by rw [List.length_take]; omega
          have hsz3 := HB3.out.size
          have HST := Lib.hid hst; have HLA := Lib.hid hla
          have HDR := Lib.hid D
          clear D hb2 hbest hst hla hr hcr hkb
          go_wp2_with (at_builtin; refine app_num wr rfl (.tmp 68) (.tmp 70) rfl w.heap.size v5 ((nd M n).kids.take t) b rfl HN.out wr.heap.size rfl rfl hacc hsz3 ?_; intro v6 w6 ho6 hk6; have D6 := HD.out.below (hk6 w HB3.out); have hr6 := D6.r; have hcr6 := ranks_at D6.ranks (j := b) (by rw [R.len]; exact hbl); have hbi6 : (b : Int) < M.length := (by omega); clear D6)
          go_roundw
          case rel => exact ⟨v6, t + 1, rkAt rk b, rfl, rfl, by omega, by rw [HST.out]; exact ho6, HLA, hk6 w HB3.out⟩
          case measure =>
            obtain ⟨A1, c1, h1, _⟩ := HN.out.form
            obtain ⟨A2, c2, h2, _⟩ := ho6.form
            rw [h1, h2]
            show (nd M n).kids.length - ((nd M n).kids.take t ++ [b]).length < (nd M n).kids.length - ((nd M n).kids.take t).length
            rw [List.length_append, List.length_take, List.length_singleton]
            omega
/-- The reference's Kids. -/
theorem refKids1 {p : Nat} {M : List Nd} {rk : List Int} {gX cX gU cU gR cR : Nat} {lX : List Cw} (n : Int) (w : World) (D : Rd11 w p M rk gX cX gU cU gR cR lX) (W : Wf M) (R : Rf M rk) (hm : M.length ≤ 5000) :
    Calls Try.prog 65 #[.pointer (some ⟨p, 0, none⟩), .int .i64 n] w fun e w' => ∃ v, e = .returned v ∧ Nw w.heap.size w' v (kidsI M n) ∧ Below w.heap.size w w' := by
  by_cases h : 0 ≤ n
  · obtain ⟨k, rfl⟩ : ∃ k : Nat, n = k := ⟨n.toNat, by omega⟩
    rw [kidsI_nat]
    exact refKids_nat k w D W R hm
  · unfold kidsI
    rw [if_neg h]
    exact refKids_neg n (by omega) w D W
end Go.Proofs.Ytfnffplnoicjcaa.Ar

namespace Go.Proofs.Ytfnffplnoicjcaa.Ar
set_option maxRecDepth 100000
set_option linter.unusedSimpArgs false
set_option linter.unusedVariables false
open Go.RowKit Ba
open Ro (At Ro Cw ros Rr Ow Nw app_num below_new)
/-- Does a node stand in another one's tree? -/
def Win (M : List Nd) (a b : Int) : Prop := 0 ≤ a ∧ 0 ≤ b ∧ Up M a.toNat b.toNat
theorem win_nat {M : List Nd} {a b : Nat} : Win M a b ↔ Up M a b := by
  unfold Win
  constructor
  · rintro ⟨_, _, h⟩
    exact h
  · intro h
    exact ⟨by omega, by omega, h⟩
theorem win_lt {M : List Nd} {a b : Int} (h : Win M a b) : 0 ≤ a ∧ a < M.length ∧ 0 ≤ b ∧ b < M.length := by
  obtain ⟨h1, h2, h3⟩ := h
  have := h3.lt
  omega
def stepM (h : Nat → Nat) (d : Int) : Nat := if d < 0 then 0 else h d.toNat + 1
set_option maxRecDepth 100000 in
set_option maxHeartbeats 2000000 in
theorem refWithin1 {p : Nat} {M : List Nd} {rk : List Int} {gX cX gU cU gR cR : Nat} {lX : List Cw} (n o : Int) (w : World) (D : Rd11 w p M rk gX cX gU cU gR cR lX) (W : Wf M) (hm : M.length ≤ 5000) (q : Bool) (hq : q = true ↔ Win M n o) :
    Calls Try.prog 66 #[.pointer (some ⟨p, 0, none⟩), .int .i64 n, .int .i64 o] w fun e w' => e = .returned (.bool q) ∧ w = w' := by
  have hx := D.x
  have hu := D.u
  have HU := Lib.hid D.ups
  have HQ := Lib.hid hq
  clear D hq
  by_cases hn : 0 ≤ n ∧ n < M.length ∧ 0 ≤ o ∧ o < M.length
  · obtain ⟨n0, n1, o0, o1⟩ := hn
    obtain ⟨h, H⟩ := W.acyc
    have HH := Lib.hid H
    clear H
    go_enter Try.func66, Try.ntmps66
    go_wp2
    go_loop [1] (fun v => ∃ d : Int, v = .int .i64 d ∧ -1 ≤ d ∧ d < M.length ∧ Hid (Win M d o ↔ Win M n o)) (fun v => stepM h (intOf v))
    case atStart => exact ⟨n, rfl, by omega, n1, Lib.hid Iff.rfl⟩
    case round =>
      obtain ⟨d, rfl, hd1, hd2, hd⟩ := hrel
      by_cases h0 : 0 ≤ d
      · obtain ⟨k, rfl⟩ : ∃ k : Nat, d = k := ⟨d.toNat, by omega⟩
        have hk : k < M.length := by omega
        have hcu := ups_at HU.out hk
        by_cases he : (k : Int) = o
        · have hqt : q = true := HQ.out.2 (hd.out.1 (by rw [← he]; exact win_nat.2 (.refl hk)))
          have HQT := Lib.hid hqt
          clear hqt
          go_wp2
          go_ret
          exact ⟨ret_bool HQT.out.symm, rfl⟩
        · obtain ⟨y, hy⟩ : ∃ y, (nd M k).up = y := ⟨_, rfl⟩
          have hlow : -1 ≤ y := by rw [← hy]; exact W.low k
          have hyl : y < M.length := by
            by_cases hy0 : 0 ≤ y
            · have := W.up_lt (c := k) (p := y.toNat) hk (by rw [hy]; omega)
              omega
            · omega
          have hstep : Win M y o ↔ Win M n o := by
            rw [← hd.out]
            unfold Win
            constructor
            · rintro ⟨a1, a2, a3⟩
              refine ⟨by omega, a2, .step hk ?_ a3⟩
              show (nd M k).up = _
              rw [hy]
              omega
            · rintro ⟨a1, a2, a3⟩
              rcases up_iff.1 a3 with ⟨_, e | ⟨p', e, a4⟩⟩
              · exfalso
                apply he
                have : k = o.toNat := e
                omega
              · have e : (nd M k).up = (p' : Int) := e
                rw [hy] at e
                subst e
                exact ⟨by omega, a2, by simpa using a4⟩
          have hmeas : stepM h y < stepM h k := by
            unfold stepM
            rw [if_neg (by omega : ¬ (k : Int) < 0)]
            by_cases hy0 : y < 0
            · rw [if_pos hy0]
              omega
            · rw [if_neg hy0]
              have := HH.out k y.toNat hk (by rw [hy]; omega)
              have e : (k : Int).toNat = k := by omega
              rw [e]
              omega
          have HS := Lib.hid hstep; have HM := Lib.hid hmeas
          rw [hy] at hcu
          clear hd hstep hmeas hy
          go_wp2
          go_round
          case rel => exact ⟨y, rfl, hlow, hyl, HS⟩
          case measure => exact HM.out
      · have hqf : q = false := by
          rw [← Bool.not_eq_true, HQ.out, ← hd.out]
          intro h
          exact h0 h.1
        have HQF := Lib.hid hqf
        clear hqf
        go_wp2
        go_ret
        exact ⟨ret_bool HQF.out.symm, rfl⟩
  · have hqf : false = q := by
      symm
      rw [← Bool.not_eq_true, HQ.out]
      intro h
      exact hn (win_lt h)
    subst hqf
    clear HQ
    by_cases a1 : n < 0
    · go_enter Try.func66, Try.ntmps66
      go_wp2
      go_ret
      exact ⟨rfl, rfl⟩
    by_cases a2 : (M.length : Int) ≤ n
    · go_enter Try.func66, Try.ntmps66
      go_wp2
      go_ret
      exact ⟨rfl, rfl⟩
    by_cases a3 : o < 0
    · go_enter Try.func66, Try.ntmps66
      go_wp2
      go_ret
      exact ⟨rfl, rfl⟩
    have a4 : (M.length : Int) ≤ o := by omega
    go_enter Try.func66, Try.ntmps66
    go_wp2
    go_ret
    exact ⟨rfl, rfl⟩
end Go.Proofs.Ytfnffplnoicjcaa.Ar

namespace Go.Proofs.Ytfnffplnoicjcaa.Ar
set_option linter.unusedSimpArgs false
set_option linter.unusedVariables false
open Go.RowKit Ba
open Ro (At Ro Cw ros Rr Ow Nw Fr Att Ap Sh cells acells app_num below_new)
/-- Of the old blocks only those of F may have changed. -/
structure Touch (F : Nat → Prop) (w w' : World) : Prop where
  os : w'.os = w.os
  tape : w'.tape = w.tape
  output : w'.output = w.output
  size : w.heap.size ≤ w'.heap.size
  block : ∀ b, b < w.heap.size → ¬ F b → w'.heap[b]? = w.heap[b]?
theorem Touch.refl (F : Nat → Prop) (w : World) : Touch F w w := ⟨rfl, rfl, rfl, Nat.le_refl _, fun _ _ _ => rfl⟩
theorem Touch.trans {F G : Nat → Prop} {a b c : World} (h : Touch F a b) (k : Touch G b c) (hG : ∀ x, x < a.heap.size → G x → F x) : Touch F a c :=
  ⟨k.os.trans h.os, k.tape.trans h.tape, k.output.trans h.output, Nat.le_trans h.size k.size, fun x hx hn => (k.block x (Nat.lt_of_lt_of_le hx h.size) fun hg => hn (hG x hx hg)).trans (h.block x hx hn)⟩
theorem Touch.of_below {F : Nat → Prop} {w w' : World} (h : Below w.heap.size w w') : Touch F w w' := ⟨h.os, h.tape, h.output, h.size, fun b hb _ => h.block b hb⟩
theorem Touch.below {F : Nat → Prop} {N : Nat} {w w' : World} (h : Touch F w w') (hF : ∀ b, F b → N ≤ b) (hN : N ≤ w.heap.size) : Below N w w' :=
  ⟨h.os, h.tape, h.output, h.size, fun b hb => h.block b (by omega) fun hf => by have := hF b hf; omega⟩
theorem Touch.grown {F : Nat → Prop} {w w' : World} {row : Option Nat} (h : w.grownBy w' row) (hF : ∀ b, row = some b → F b) : Touch F w w' :=
  ⟨h.os, h.tape, h.output, h.size, fun b hb hn => h.block b hb fun e => hn (hF b e.symm)⟩
theorem Touch.set {F : Nat → Prop} (w : World) (a : Addr) (v : Value) (hF : F a.block) : Touch F w (w.setCell a v) :=
  ⟨rfl, rfl, rfl, by simp [World.setCell], fun b hb hn => Below.heap_setCell w a v b fun e => hn (e ▸ hF)⟩
theorem Touch.mono {F G : Nat → Prop} {w w' : World} (h : Touch F w w') (hG : ∀ b, b < w.heap.size → F b → G b) : Touch G w w' := ⟨h.os, h.tape, h.output, h.size, fun b hb hn => h.block b hb fun hf => hn (hG b hb hf)⟩

theorem owns_block {w w' : World} {N n size : Nat} {t : TypeId} {v : Value} {xs : List Value} (h : w.ownsRow N t size v n xs) (hb : ∀ g, v.ownBlock = some g → w'.heap[g]? = w.heap[g]?) : w'.ownsRow N t size v n xs := by
  refine ⟨h.1, ?_⟩
  rcases h.2 with hn | ⟨g, cap, cur, hv, hg, hh, rest⟩
  · exact .inl hn
  · exact .inr ⟨g, cap, cur, hv, hg, (hb g (by rw [hv]; rfl)).trans hh, rest⟩
theorem owns_lt {w : World} {N n size : Nat} {t : TypeId} {v : Value} {xs : List Value} (h : w.ownsRow N t size v n xs) {g : Nat} (hg : v.ownBlock = some g) : N ≤ g ∧ g < w.heap.size ∧ ∃ cs fr, w.heap[g]? = some (.cells cs t fr) := by
  rcases h.2 with ⟨hv, _⟩ | ⟨g', cap, cur, hv, hg', hh, rest⟩
  · rw [hv] at hg
    cases hg
  · rw [hv] at hg
    obtain rfl : g' = g := Option.some.inj hg
    exact ⟨hg', (Array.getElem?_eq_some_iff.1 hh).1, _, _, hh⟩
/-- Where a row's attributes lie. -/
def atBlock (x : Cw) : Option Nat := (Value.slice x.A x.ro.attrs.length x.c).ownBlock
theorem Fr.block {N : Nat} {w w' : World} {x : Cw} (h : Fr N w x) (hb : ∀ g, atBlock x = some g → w'.heap[g]? = w.heap[g]?) : Fr N w' x := ⟨owns_block h.1 hb, h.2⟩

def iv (i : Int) : Value := .int .i64 i
/-- The reference's document: all of its blocks are in F, and the call's own from N on. -/
structure RD (w : World) (N : Nat) (F : Nat → Prop) (p : Nat) (M : List Nd) (rk : List Int) (gX cX gU cU gR cR : Nat) (lX : List Cw) : Prop where
  box : w.heap[p]? = some (.cells #[.slice (some ⟨gX, 0, none⟩) M.length cX, .slice (some ⟨gU, 0, none⟩) M.length cU, .slice (some ⟨gR, 0, none⟩) M.length cR] 75)
  rows : w.ownsRow N 47 5 (.slice (some ⟨gX, 0, none⟩) M.length cX) M.length (lX.flatMap cells)
  attrs : ∀ x ∈ lX, Fr N w x ∧ ∀ g, atBlock x = some g → F g
  same : ros lX = M.map Nd.ro
  ups : w.ownsRow N 3 1 (.slice (some ⟨gU, 0, none⟩) M.length cU) M.length ((M.map Nd.up).map iv)
  ranks : w.ownsRow N 3 1 (.slice (some ⟨gR, 0, none⟩) M.length cR) M.length (rk.map iv)
  apart : gU ≠ gR
  low : N ≤ p
  fp : F p
  fx : F gX
  fu : F gU
  fr : F gR
  rf : Rf M rk
  bd : ∀ b, F b → b < w.heap.size
theorem RD.len {w : World} {N : Nat} {F : Nat → Prop} {p : Nat} {M : List Nd} {rk : List Int} {gX cX gU cU gR cR : Nat} {lX : List Cw} (h : RD w N F p M rk gX cX gU cU gR cR lX) : lX.length = M.length := by
  have := congrArg List.length h.same
  rw [Ro.len_ros, List.length_map] at this
  exact this
theorem RD.touch {w w' : World} {N : Nat} {F G : Nat → Prop} {p : Nat} {M : List Nd} {rk : List Int} {gX cX gU cU gR cR : Nat} {lX : List Cw} (h : RD w N F p M rk gX cX gU cU gR cR lX) (t : Touch G w w') (hd : ∀ b, F b → ¬ G b) : RD w' N F p M rk gX cX gU cU gR cR lX := by
  have hk : ∀ b, F b → b < w.heap.size → w'.heap[b]? = w.heap[b]? := fun b hf hb => t.block b hb (hd b hf)
  refine ⟨(hk p h.fp (Array.getElem?_eq_some_iff.1 h.box).1).trans h.box, owns_block h.rows fun g hg => ?_, fun x hx => ⟨Fr.block (h.attrs x hx).1 fun g hg => ?_, (h.attrs x hx).2⟩, h.same, owns_block h.ups fun g hg => ?_, owns_block h.ranks fun g hg => ?_, h.apart, h.low, h.fp, h.fx, h.fu, h.fr, h.rf, fun b hb => Nat.lt_of_lt_of_le (h.bd b hb) t.size⟩
  · obtain ⟨_, h2, _⟩ := owns_lt h.rows hg
    obtain rfl : gX = g := Option.some.inj hg
    exact hk _ h.fx h2
  · obtain ⟨_, h2, _⟩ := owns_lt (h.attrs x hx).1.1 hg
    exact hk g ((h.attrs x hx).2 g hg) h2
  · obtain ⟨_, h2, _⟩ := owns_lt h.ups hg
    obtain rfl : gU = g := Option.some.inj hg
    exact hk _ h.fu h2
  · obtain ⟨_, h2, _⟩ := owns_lt h.ranks hg
    obtain rfl : gR = g := Option.some.inj hg
    exact hk _ h.fr h2
theorem RD.below {w w' : World} {N : Nat} {F : Nat → Prop} {p : Nat} {M : List Nd} {rk : List Int} {gX cX gU cU gR cR : Nat} {lX : List Cw} (h : RD w N F p M rk gX cX gU cU gR cR lX) (hb : Below w.heap.size w w') : RD w' N F p M rk gX cX gU cU gR cR lX :=
  h.touch (G := fun _ => False) (Touch.of_below hb) fun _ _ h => h
theorem li_of {w : World} {N g c : Nat} {l : List Int} {n : Nat} (hn : l.length = n) (h : w.ownsRow N 3 1 (.slice (some ⟨g, 0, none⟩) n c) n (l.map iv)) : Li w g l := by
  obtain ⟨_, h2, _⟩ := owns_lt h (g := g) rfl
  refine ⟨h2, fun j hj => ?_⟩
  have := World.ownsRow.cells h (g := g) rfl j (iv l[j]) (by simp [hj])
  rw [WideShapes.add_plain, Nat.zero_add] at this
  exact this
theorem RD.rd {w : World} {N : Nat} {F : Nat → Prop} {p : Nat} {M : List Nd} {rk : List Int} {gX cX gU cU gR cR : Nat} {lX : List Cw} (h : RD w N F p M rk gX cX gU cU gR cR lX) : Rd11 w p M rk gX cX gU cU gR cR lX := by
  have hl := h.len
  have hlt := (Array.getElem?_eq_some_iff.1 h.box).1
  have hc := fun j => cell_of_row w p j _ _ _ h.box
  obtain ⟨_, hx, _⟩ := owns_lt h.rows (g := gX) rfl
  refine ⟨hlt, hc 0, hc 1, hc 2, ⟨fun h0 => ⟨gX, 0, rfl, hx, fun j hj i u hu => ?_⟩, fun x hx => (h.attrs x hx).1.att⟩, h.same, li_of (by simp) h.ups, li_of h.rf.len h.ranks⟩
  have hi : i < 5 := (List.getElem?_eq_some_iff.1 hu).1
  have := World.ownsRow.cells h.rows (g := gX) rfl (j * 5 + i) u (by rw [Ro.flat_at cells 5 Ro.len_cells _ _ _ hj hi]; exact hu)
  rw [WideShapes.add_plain] at this
  rw [show 0 + j * 5 + i = 0 + (j * 5 + i) from by omega]
  exact this
end Go.Proofs.Ytfnffplnoicjcaa.Ar

namespace Go.Proofs.Ytfnffplnoicjcaa.Ar
set_option maxRecDepth 100000
set_option linter.unusedSimpArgs false
set_option linter.unusedVariables false
open Go.RowKit Ba
open Ro (At Ro Cw ros Rr Ow Nw Fr Att Ap Sh cells acells app_num below_new infoI)
/-- A slice of numbers of one's own. -/
def Iw (N : Nat) (w : World) (g c : Nat) (n : Nat) (l : List Int) : Prop := w.ownsRow N 3 1 (.slice (some ⟨g, 0, none⟩) n c) n (l.map iv)
theorem Iw.len {N : Nat} {w : World} {g c n : Nat} {l : List Int} (h : Iw N w g c n l) : l.length = n := by
  have := h.1
  rw [List.length_map, Nat.mul_one] at this
  exact this
theorem Iw.made (w : World) : Iw w.heap.size (w.alloc (.cells #[] 3)) w.heap.size 0 0 [] := World.ownsRow_made w #[] 0 (Nat.le_refl _) (Nat.zero_le _) rfl
theorem Iw.block {N : Nat} {w w' : World} {g c n : Nat} {l : List Int} (h : Iw N w g c n l) (hb : w'.heap[g]? = w.heap[g]?) : Iw N w' g c n l := owns_block h fun g' hg' => by
  obtain rfl : g = g' := Option.some.inj hg'
  exact hb
theorem Iw.lt {N : Nat} {w : World} {g c n : Nat} {l : List Int} (h : Iw N w g c n l) : N ≤ g ∧ g < w.heap.size := by
  obtain ⟨h1, h2, _⟩ := owns_lt h (g := g) rfl
  exact ⟨h1, h2⟩
theorem Iw.mono {N N' : Nat} {w : World} {g c n : Nat} {l : List Int} (h : Iw N w g c n l) (hN : N' ≤ N) : Iw N' w g c n l := World.ownsRow.mono h hN
theorem Iw.store {N : Nat} {w : World} {g c n : Nat} {l : List Int} (h : Iw N w g c n l) (j : Nat) (y : Int) : Iw N (w.setCell ⟨g, j, none⟩ (.int .i64 y)) g c n (l.set j y) := by
  have h1 := (World.ownsRow.stored h j (.int .i64 y)).1
  unfold Iw
  rw [List.map_set]
  exact h1
theorem Iw.cell {N : Nat} {w : World} {g c n : Nat} {l : List Int} (h : Iw N w g c n l) {j : Nat} (hj : j < n) : w.cell? ⟨g, j, none⟩ = some (.int .i64 (l[j]'(by rw [h.len]; exact hj))) ∧ w.frozen? ⟨g, j, none⟩ = false := by
  refine ⟨?_, World.ownsRow.frozenAt h j⟩
  rw [World.ownsRow.cellAt h j (by rw [Nat.mul_one]; exact hj)]
  simp [iv, h.len, hj]
theorem Iw.some {N : Nat} {w : World} {g c n : Nat} {l : List Int} (h : Iw N w g c n l) {j : Nat} (hj : j < n) : ∃ y : Int, w.cell? ⟨g, j, none⟩ = .some (.int .i64 y) ∧ w.frozen? ⟨g, j, none⟩ = false := ⟨_, h.cell hj⟩
/-- append of numbers onto numbers of one's own. -/
theorem app_ints {ops : Array Oper} {rest : List Oper} {o : Oper} {a : Act} {Q : Exit → Act → World → Prop} (w : World) (hgd : o.guard = none) (s x : Operand)
    (ho : o.op = .call { callee := .builtin .append, args := #[s, x], argTypes := #[29, 29] })
    (N g0 c0 n0 : Nat) (l : List Int) (hs : a.eval s = .slice (some ⟨g0, 0, none⟩) n0 c0) (hown : Iw N w g0 c0 n0 l) (g c n : Nat) (ys : List Int) (hx : a.eval x = .slice (some ⟨g, 0, none⟩) n c) (hn : ys.length = n) (hr : Li w g ys) (h0 : 0 < n)
    (hl : n0 + n ≤ 2000000) (hN : N ≤ w.heap.size) (H : Nat) (hH : w.heap.size = H)
    (h : ∀ g' c' w', Iw N w' g' c' (n0 + n) (l ++ ys) → w.grownBy w' (some g0) → (g' = g0 ∨ g' = H) → wpList Try.prog ops Q rest (a.put o.dst (.slice (some ⟨g', 0, none⟩) (n0 + n) c')) w') :
    wpList Try.prog ops Q (o :: rest) a w := by
  obtain ⟨i0, hi, hz0, hz1, hz2⟩ := info_parts infoI
  refine wpList_append_lies w hgd s x 29 ho N 3 i0 (.int .i64 0) 1 8 Try.underlying29 hi hz0 hz1 hz2 rfl (by decide) _ n0 (l.map iv) hs hown ⟨g, 0, none⟩ n c (ys.map iv) hx (by rw [List.length_map, hn, Nat.mul_one]) (fun j u hu => ?_) (fun u hu => ?_) h0 (by unfold maxLen; omega) (by omega) hN H hH ?_
  · have hj : j < ys.length := by
      have := (List.getElem?_eq_some_iff.1 hu).1
      simpa using this
    rw [WideShapes.add_plain, Nat.zero_add, hr.2 j hj]
    rw [List.getElem?_map, List.getElem?_eq_getElem hj] at hu
    exact hu
  · obtain ⟨y, _, rfl⟩ := List.mem_map.1 hu
    rfl
  · intro g' c' w' h1 h2 h3 _
    refine h g' c' w' (by unfold Iw; rw [List.map_append]; exact h1) h2 ?_
    rcases h3 with h3 | h3
    · exact .inl (Option.some.inj h3).symm
    · exact .inr h3

/-! ### What a call leaves of a document. -/
def Doc11 (w : World) (N : Nat) (F : Nat → Prop) (p : Nat) (M : List Nd) : Prop := ∃ rk gX cX gU cU gR cR lX, RD w N F p M rk gX cX gU cU gR cR lX
def Next (w w' : World) (F F' : Nat → Prop) : Prop := Touch F w w' ∧ (∀ b, F b → F' b) ∧ ∀ b, F' b → F b ∨ (w.heap.size ≤ b ∧ b < w'.heap.size)
theorem Next.refl (w : World) (F : Nat → Prop) : Next w w F F := ⟨Touch.refl F w, fun _ h => h, fun _ h => .inl h⟩
theorem Next.trans {a b c : World} {F G H : Nat → Prop} (h : Next a b F G) (k : Next b c G H) : Next a c F H := by
  have h1 := h.1.size
  have h2 := k.1.size
  refine ⟨h.1.trans k.1 fun x hx hg => ?_, fun x hx => k.2.1 x (h.2.1 x hx), fun x hx => ?_⟩
  · rcases h.2.2 x hg with h | h
    · exact h
    · omega
  · rcases k.2.2 x hx with h3 | h3
    · rcases h.2.2 x h3 with h4 | h4
      · exact .inl h4
      · exact .inr ⟨h4.1, by omega⟩
    · exact .inr ⟨by omega, h3.2⟩
/-- The blocks that were made meanwhile are the document's, too. -/
def Wide (w w' : World) (F : Nat → Prop) (b : Nat) : Prop := F b ∨ (w.heap.size ≤ b ∧ b < w'.heap.size)
theorem rf_take {M : List Nd} {rk : List Int} (R : Rf M rk) (n : Nat) : Rf (takeOut M n) rk := ⟨by rw [len_take]; exact R.len, R.low, fun p => by
  rw [nd_take]
  exact (R.rise p).sublist ((List.filter_sublist).map _)⟩
theorem up_take (M : List Nd) (n : Nat) : (takeOut M n).map Nd.up = (M.map Nd.up).set n (-1) := by
  apply List.ext_getElem?
  intro j
  unfold takeOut
  rw [List.getElem?_map, List.getElem?_mapIdx, List.getElem?_set, List.getElem?_map, List.length_map]
  by_cases hj : j < M.length
  · rw [List.getElem?_eq_getElem hj]
    by_cases e : n = j
    · subst e
      simp [hj]
    · have e' : ¬ j = n := fun h => e h.symm
      simp [e, e']
  · rw [List.getElem?_eq_none (by omega : M.length ≤ j)]
    by_cases e : n = j
    · subst e
      simp [hj]
    · simp [e]
theorem ro_take (M : List Nd) (n : Nat) : (takeOut M n).map Nd.ro = M.map Nd.ro := by
  apply List.ext_getElem?
  intro j
  unfold takeOut
  rw [List.getElem?_map, List.getElem?_mapIdx, List.getElem?_map]
  cases M[j]? <;> rfl
/-- A box of three cells, one of them changed. -/
theorem box_set {w : World} {p : Nat} {a b c : Value} {t : TypeId} (h : w.heap[p]? = some (.cells #[a, b, c] t)) (u : Value) :
    (w.setCell ⟨p, 0, none⟩ u).heap[p]? = some (.cells #[u, b, c] t) ∧ (w.setCell ⟨p, 1, none⟩ u).heap[p]? = some (.cells #[a, u, c] t) ∧ (w.setCell ⟨p, 2, none⟩ u).heap[p]? = some (.cells #[a, b, u] t) := by
  refine ⟨?_, ?_, ?_⟩ <;> simp [World.setCell, Array.getElem?_modify, h]
theorem box_frozen {w : World} {p : Nat} {cs : Array Value} {t : TypeId} (h : w.heap[p]? = some (.cells cs t)) (j : Nat) : w.frozen? ⟨p, j, none⟩ = false := by
  unfold World.frozen?
  rw [h]
  rfl
theorem RD.p_lt {w : World} {N : Nat} {F : Nat → Prop} {p : Nat} {M : List Nd} {rk : List Int} {gX cX gU cU gR cR : Nat} {lX : List Cw} (h : RD w N F p M rk gX cX gU cU gR cR lX) : p < w.heap.size := (Array.getElem?_eq_some_iff.1 h.box).1
/-- Other numbers of parents, in a block that was made meanwhile. -/
theorem RD.newUps {w w3 : World} {N : Nat} {F : Nat → Prop} {p : Nat} {M M' : List Nd} {rk : List Int} {gX cX gU cU gR cR : Nat} {lX : List Cw} (h : RD w N F p M rk gX cX gU cU gR cR lX) (hN : N ≤ w.heap.size) (hb : Below w.heap.size w w3) {g c : Nat} (ho : Iw w.heap.size w3 g c M.length (M'.map Nd.up)) (hro : M'.map Nd.ro = M.map Nd.ro) (hrf : Rf M' rk) :
    RD (w3.setCell ⟨p, 1, none⟩ (.slice (some ⟨g, 0, none⟩) M.length c)) N (fun b => F b ∨ b = g) p M' rk gX cX g c gR cR lX ∧ Next w (w3.setCell ⟨p, 1, none⟩ (.slice (some ⟨g, 0, none⟩) M.length c)) F (fun b => F b ∨ b = g) := by
  have D := h.below hb
  have hp := h.p_lt
  have hml : M'.length = M.length := by
    have := ho.len
    rwa [List.length_map] at this
  have hg := ho.lt
  have hne : p ≠ g := by omega
  have hblk : ∀ b, b ≠ p → (w3.setCell ⟨p, 1, none⟩ (.slice (some ⟨g, 0, none⟩) M.length c)).heap[b]? = w3.heap[b]? := fun b hb => Below.heap_setCell _ _ _ _ hb
  have hsize : (w3.setCell ⟨p, 1, none⟩ (.slice (some ⟨g, 0, none⟩) M.length c)).heap.size = w3.heap.size := by simp [World.setCell]
  have ht := fun {t : TypeId} {v : Value} {n s : Nat} {xs : List Value} (ho : w3.ownsRow N t s v n xs) (htt : t ≠ 75) => owns_block (w' := w3.setCell ⟨p, 1, none⟩ (.slice (some ⟨g, 0, none⟩) M.length c)) ho fun g' hg' => hblk g' fun e => by
    obtain ⟨_, _, cs, fr, hh⟩ := owns_lt ho hg'
    rw [e, D.box] at hh
    injection hh with hh
    injection hh with _ h2
    exact htt h2.symm
  refine ⟨⟨?_, ?_, fun x hx => ⟨⟨ht (D.attrs x hx).1.1 (by decide), (D.attrs x hx).1.2⟩, fun g' hg' => .inl ((D.attrs x hx).2 g' hg')⟩, by rw [D.same, hro], ?_, ?_, ?_, D.low, .inl D.fp, .inl D.fx, .inr rfl, .inl D.fr, hrf, fun b hb => ?_⟩, ⟨?_, fun b hb => .inl hb, fun b hb => ?_⟩⟩
  · rw [hml]
    exact (box_set D.box _).2.1
  · rw [hml]
    exact ht D.rows (by decide)
  · rw [hml]
    exact Iw.block (Iw.mono ho hN) (hblk g fun e => hne e.symm)
  · rw [hml]
    exact ht D.ranks (by decide)
  · have := (owns_lt h.ranks (g := gR) rfl).2.1
    omega
  · rw [hsize]
    rcases hb with hb | hb
    · exact D.bd b hb
    · rw [hb]
      exact hg.2
  · exact (Touch.of_below hb).trans (Touch.set w3 ⟨p, 1, none⟩ _ (F := F) h.fp) fun _ _ h => h
  · rcases hb with h | h
    · exact .inl h
    · rw [hsize]
      exact .inr (by omega)
set_option maxRecDepth 100000 in
set_option maxHeartbeats 2000000 in
theorem refRemove1 {p N : Nat} {F : Nat → Prop} {M : List Nd} (n : Int) (w : World) (D : Doc11 w N F p M) (W : Wf M) (hm : M.length ≤ 5000) (q : Int) (hq : (if 1 ≤ n ∧ n < M.length then (0 : Int) else 110) = q) :
    Calls Try.prog 42 #[.pointer (some ⟨p, 0, none⟩), .int .i64 n] w fun e w' => e = .returned (.int .i64 q) ∧ ∃ F', Doc11 w' N F' p (if 1 ≤ n ∧ n < M.length then takeOut M n.toNat else M) ∧ Next w w' F F' := by
  by_cases hn : 1 ≤ n ∧ n < M.length
  · rw [if_pos hn] at hq ⊢
    subst hq
    obtain ⟨k, rfl⟩ : ∃ k : Nat, n = k := ⟨n.toNat, by omega⟩
    obtain ⟨rk, gX, cX, gU, cU, gR, cR, lX, D⟩ := D
    have R := D.rd
    have hx := R.x
    have hu := R.u
    have HB0 := Lib.hid (below_new w (.cells #[] 3))
    have D1 := D.below (below_new w (.cells #[] 3))
    have hx1 := D1.rd.x
    have hu1 := D1.rd.u
    have HLI := Lib.hid (D1.rd.ups)
    have HIW := Lib.hid (Iw.made w)
    have HD := Lib.hid D; have HD1 := Lib.hid D1
    have hl0 : 0 < M.length := by omega
    have hl1 : 0 + M.length ≤ 2000000 := by omega
    have hul : (M.map Nd.up).length = M.length := by rw [List.length_map]
    have HUL := Lib.hid hul
    clear D R D1 hul
    obtain ⟨n1, n2⟩ := hn
    go_enter Try.func42, Try.ntmps42
    go_wp2_with (at_builtin; refine app_ints (w.alloc (.cells #[] 3)) rfl (.tmp 17) (.tmp 21) rfl w.heap.size w.heap.size 0 0 [] rfl HIW.out gU cU M.length (M.map Nd.up) rfl HUL.out HLI.out hl0 hl1 (by simp) (w.heap.size + 1) (by simp) ?_; intro g2 c2 w2 ho2 hg2 hw2; rw [Nat.zero_add, List.nil_append] at ho2; obtain ⟨y2, hkc, hkf⟩ := ho2.some (j := k) (by omega); have hb2 := HB0.out.grown hg2 (by simp) (fun x hx => by cases hx; exact Nat.le_refl _); have D2 := HD.out.below hb2; have hg2l := ho2.lt; have hst := ho2.store k (-1); have hb3 := hb2.setCell (p := ⟨g2, k, none⟩) hg2l.1 (.int .i64 (-1)); have D3 := HD.out.below hb3; have hp3 := D3.rd.u; have hf3 := box_frozen D3.box 1; have HST := Lib.hid hst; have HB3 := Lib.hid hb3; rw [Nat.zero_add]; clear ho2 hb2 D2 hst hb3 D3 hg2 hw2)
    go_ret
    have hN : N ≤ w.heap.size := Nat.le_of_lt (Nat.lt_of_le_of_lt HD.out.low HD.out.p_lt)
    have key := HD.out.newUps (M' := takeOut M k) hN HB3.out (by rw [up_take]; exact HST.out) (ro_take M k) (rf_take HD.out.rf k)
    exact ⟨rfl, _, ⟨rk, gX, cX, g2, c2, gR, cR, lX, key.1⟩, key.2⟩
  · rw [if_neg hn] at hq ⊢
    subst hq
    have D0 := D
    obtain ⟨rk, gX, cX, gU, cU, gR, cR, lX, D⟩ := D
    have hx := D.rd.x
    have HD0 := Lib.hid D0
    clear D D0
    by_cases h1 : n < 1
    · go_enter Try.func42, Try.ntmps42
      go_wp2
      go_ret
      exact ⟨rfl, F, HD0.out, Next.refl w F⟩
    · have h2 : (M.length : Int) ≤ n := by omega
      go_enter Try.func42, Try.ntmps42
      go_wp2
      go_ret
      exact ⟨rfl, F, HD0.out, Next.refl w F⟩
end Go.Proofs.Ytfnffplnoicjcaa.Ar

namespace Go.Proofs.Ytfnffplnoicjcaa.Ar
set_option linter.unusedSimpArgs false
set_option linter.unusedVariables false
open Go.RowKit Ba
open Ro (At Ro Cw ros Rr Ow Nw Fr Att Ap Sh cells acells app_num below_new infoI)
/-! ### Ranks given anew. -/
def ranked (rk : List Int) (ks : List Nat) : Nat → List Int
  | 0 => rk
  | t + 1 => (ranked rk ks t).set ((ks[t]?).getD 0) (2 * t + 1)
theorem ranked_len (rk : List Int) (ks : List Nat) : ∀ t, (ranked rk ks t).length = rk.length
  | 0 => rfl
  | t + 1 => by rw [ranked, List.length_set, ranked_len rk ks t]
theorem rk_set (rk : List Int) (c d : Nat) (y : Int) : rkAt (rk.set c y) d = if c = d ∧ c < rk.length then y else rkAt rk d := by
  unfold rkAt
  rw [List.getElem?_set]
  by_cases e : c = d
  · subst e
    by_cases h : c < rk.length
    · simp [h]
    · simp [h]
  · simp [e]
theorem ranked_at {rk : List Int} {ks : List Nat} (hn : ks.Nodup) (hk : ∀ c ∈ ks, c < rk.length) : ∀ t, t ≤ ks.length → (∀ j (h : j < ks.length), j < t → rkAt (ranked rk ks t) ks[j] = 2 * j + 1) ∧ (∀ c, c ∉ ks → rkAt (ranked rk ks t) c = rkAt rk c)
  | 0, _ => ⟨fun j h h0 => absurd h0 (by omega), fun c _ => rfl⟩
  | t + 1, ht => by
    obtain ⟨h1, h2⟩ := ranked_at hn hk t (by omega)
    have hg : (ks[t]?).getD 0 = ks[t]'(by omega) := by rw [List.getElem?_eq_getElem (by omega)]; rfl
    refine ⟨fun j h hj => ?_, fun c hc => ?_⟩
    · rw [ranked, hg, rk_set, ranked_len]
      by_cases e : t = j
      · subst e
        rw [if_pos ⟨rfl, hk _ (List.getElem_mem _)⟩]
      · rw [if_neg (fun h' => List.pairwise_iff_getElem.1 hn j t h (by omega) (by omega) h'.1.symm)]
        exact h1 j h (by omega)
    · rw [ranked, hg, rk_set]
      have hne : ¬ (ks[t]'(by omega) = c ∧ ks[t]'(by omega) < (ranked rk ks t).length) := fun h' => hc (h'.1 ▸ List.getElem_mem _)
      rw [if_neg hne]
      exact h2 c hc
theorem ranked_low {rk : List Int} (ks : List Nat) (h : ∀ c, 0 ≤ rkAt rk c) : ∀ t c, 0 ≤ rkAt (ranked rk ks t) c
  | 0, c => h c
  | t + 1, c => by
    rw [ranked, rk_set]
    split
    · omega
    · exact ranked_low ks h t c
theorem map_congr_rk {ks : List Nat} {a b : List Int} (h : ∀ c ∈ ks, rkAt a c = rkAt b c) : ks.map (rkAt a) = ks.map (rkAt b) := List.map_congr_left h
/-- What set gives: the ranks of a node's kids, with another one put between them. -/
theorem rf_set {M : List Nd} {rk : List Int} (W : Wf M) (R : Rf M rk) {P A n : Nat} (hP : P < M.length) (hn : n < M.length) (hA : A ≤ ((nd M P).kids.filter (· != n)).length) :
    Rf (setM M P A n) ((ranked rk ((nd M P).kids.filter (· != n)) ((nd M P).kids.filter (· != n)).length).set n (2 * A)) := by
  obtain ⟨ks, hks⟩ : ∃ ks, (nd M P).kids.filter (· != n) = ks := ⟨_, rfl⟩
  rw [hks] at hA ⊢
  have hnd : ks.Nodup := hks ▸ (W.nodup P).sublist List.filter_sublist
  have hlt : ∀ c ∈ ks, c < rk.length := fun c hc => by
    rw [← hks, List.mem_filter] at hc
    rw [R.len]
    exact ((W.kid P c).1 hc.1).1
  have hnn : n ∉ ks := fun h => by
    rw [← hks, List.mem_filter] at h
    simp at h
  obtain ⟨h1, h2⟩ := ranked_at hnd hlt ks.length (Nat.le_refl _)
  have hrl : (ranked rk ks ks.length).length = M.length := by rw [ranked_len, R.len]
  have hat : ∀ c, c ≠ n → rkAt ((ranked rk ks ks.length).set n (2 * A)) c = rkAt (ranked rk ks ks.length) c := fun c hc => by
    rw [rk_set, if_neg (fun h => hc h.1.symm)]
  have hatn : rkAt ((ranked rk ks ks.length).set n (2 * A)) n = 2 * A := by rw [rk_set, if_pos ⟨rfl, by omega⟩]
  refine ⟨by rw [List.length_set, hrl, len_set], fun c => ?_, fun q => ?_⟩
  · by_cases e : c = n
    · rw [e, hatn]
      omega
    · rw [hat c e]
      exact ranked_low ks R.low _ c
  · rw [nd_set hP hn]
    show List.Pairwise _ (List.map _ (if q = P then putAt10 ((nd M q).kids.filter (· != n)) A n else (nd M q).kids.filter (· != n)))
    by_cases e : q = P
    · subst e
      rw [if_pos rfl, hks]
      have hv : ∀ j (h : j < ks.length), rkAt ((ranked rk ks ks.length).set n (2 * A)) ks[j] = 2 * j + 1 := fun j h => by
        rw [hat _ (fun e => hnn (e ▸ List.getElem_mem _))]
        exact h1 j h h
      have hp : (ks.map (rkAt ((ranked rk ks ks.length).set n (2 * A)))).Pairwise (· < ·) := by
        rw [List.pairwise_iff_getElem]
        intro i j hi hj hij
        rw [List.length_map] at hi hj
        rw [List.getElem_map, List.getElem_map, hv i hi, hv j hj]
        omega
      unfold putAt10
      rw [List.map_append, List.map_cons, List.map_take, List.map_drop, List.pairwise_append, List.pairwise_cons, hatn]
      refine ⟨hp.sublist (List.take_sublist _ _), ⟨fun y hy => ?_, hp.sublist (List.drop_sublist _ _)⟩, fun x hx y hy => ?_⟩
      · obtain ⟨j, hj, rfl⟩ := List.getElem_of_mem hy
        rw [List.length_drop, List.length_map] at hj
        rw [List.getElem_drop, List.getElem_map, hv _ (by omega)]
        omega
      · obtain ⟨i, hi, rfl⟩ := List.getElem_of_mem hx
        rw [List.length_take, List.length_map] at hi
        rw [List.getElem_take, List.getElem_map, hv _ (by omega)]
        rw [List.mem_cons] at hy
        rcases hy with rfl | hy
        · omega
        · obtain ⟨j, hj, rfl⟩ := List.getElem_of_mem hy
          rw [List.length_drop, List.length_map] at hj
          rw [List.getElem_drop, List.getElem_map, hv _ (by omega)]
          omega
    · rw [if_neg e]
      rw [map_congr_rk (b := rk) fun c hc => ?_]
      · exact (R.rise q).sublist ((List.filter_sublist).map _)
      · rw [List.mem_filter] at hc
        have hcn : c ≠ n := by simpa using hc.2
        rw [hat c hcn]
        refine h2 c fun hk => e ?_
        rw [← hks, List.mem_filter] at hk
        have a := ((W.kid q c).1 hc.1).2
        have b := ((W.kid P c).1 hk.1).2
        rw [a] at b
        omega
theorem up_set (M : List Nd) (P A n : Nat) : (setM M P A n).map Nd.up = ((M.map Nd.up).set n (-1)).set n (P : Int) := by
  rw [List.set_set]
  apply List.ext_getElem?
  intro j
  unfold setM
  rw [List.getElem?_map, List.getElem?_mapIdx, List.getElem?_set, List.getElem?_map, List.length_map]
  by_cases hj : j < M.length
  · rw [List.getElem?_eq_getElem hj]
    by_cases e : n = j
    · subst e
      simp [hj]
    · have e' : ¬ j = n := fun h => e h.symm
      simp [e, e']
  · rw [List.getElem?_eq_none (by omega : M.length ≤ j)]
    by_cases e : n = j
    · subst e
      simp [hj]
    · simp [e]
theorem ro_set (M : List Nd) (P A n : Nat) : (setM M P A n).map Nd.ro = M.map Nd.ro := by
  apply List.ext_getElem?
  intro j
  unfold setM
  rw [List.getElem?_map, List.getElem?_mapIdx, List.getElem?_map]
  cases M[j]? <;> rfl

/-- A slice of numbers of one's own: where it lies. -/
theorem nw_at {N : Nat} {w : World} {v : Value} {l : List Nat} (h : Nw N w v l) : ∃ A c, v = .slice A l.length c ∧ (0 < l.length → ∃ b, A = some ⟨b, 0, none⟩ ∧ N ≤ b ∧ b < w.heap.size ∧ ∀ j (h : j < l.length), w.cell? ⟨b, j, none⟩ = some (.int .i64 (l[j] : Nat))) := by
  obtain ⟨A, c, hv, _, _, hr⟩ := h.form
  refine ⟨A, c, hv, fun h0 => ?_⟩
  rcases h.2 with ⟨hn, hl⟩ | ⟨g, cap, cur, hv', hg, hh, _⟩
  · omega
  · rw [hv] at hv'
    injection hv' with h1 h2 h3
    subst h1
    obtain ⟨b, off, hb, hlt, hc⟩ := hr h0
    injection hb with hb
    injection hb with hb1 hb2 _
    subst hb1 hb2
    refine ⟨g, rfl, hg, hlt, fun j hj => ?_⟩
    have := hc j hj
    rwa [Nat.zero_add] at this
/-- Other ranks, in a block apart; and one more parent. -/
theorem RD.newRanks {w : World} {N : Nat} {F : Nat → Prop} {p : Nat} {M M' : List Nd} {rk rk' : List Int} {gX cX gU cU gR cR : Nat} {lX : List Cw} (h : RD w N F p M rk gX cX gU cU gR cR lX) {K g c n : Nat} {y : Int} (hNK : N ≤ K) (ho : Iw K w g c M.length rk') (hg : ¬ F g) (hup : M'.map Nd.up = (M.map Nd.up).set n y) (hro : M'.map Nd.ro = M.map Nd.ro) (hrf : Rf M' rk') :
    RD ((w.setCell ⟨gU, n, none⟩ (.int .i64 y)).setCell ⟨p, 2, none⟩ (.slice (some ⟨g, 0, none⟩) M.length c)) N (fun b => F b ∨ b = g) p M' rk' gX cX gU cU g c lX ∧
      Touch (fun b => F b ∨ b = g) w ((w.setCell ⟨gU, n, none⟩ (.int .i64 y)).setCell ⟨p, 2, none⟩ (.slice (some ⟨g, 0, none⟩) M.length c)) := by
  have hml : M'.length = M.length := by
    have := congrArg List.length hup
    simpa using this
  have hgl := ho.lt
  have hpu : p ≠ gU := fun e => by
    obtain ⟨_, _, cs, fr, hh⟩ := owns_lt h.ups (g := gU) rfl
    rw [← e, h.box] at hh
    injection hh with hh
    injection hh with _ h2
    revert h2
    decide
  have hpg : p ≠ g := fun e => hg (e ▸ h.fp)
  have hug : gU ≠ g := fun e => hg (e ▸ h.fu)
  obtain ⟨w1, hw1⟩ : ∃ w1, w.setCell ⟨gU, n, none⟩ (.int .i64 y) = w1 := ⟨_, rfl⟩
  have hb1 : ∀ b, b ≠ gU → w1.heap[b]? = w.heap[b]? := fun b hb => hw1 ▸ Below.heap_setCell _ _ _ _ hb
  have hs1 : w1.heap.size = w.heap.size := by rw [← hw1]; simp [World.setCell]
  have hu1 : Iw N w1 gU cU M.length ((M.map Nd.up).set n y) := hw1 ▸ Iw.store h.ups n y
  have hbox1 := (hb1 p hpu).trans h.box
  have t1 : Touch (fun b => F b ∨ b = g) w w1 := hw1 ▸ Touch.set w ⟨gU, n, none⟩ _ (.inl h.fu)
  rw [hw1]
  obtain ⟨w2, hw2⟩ : ∃ w2, w1.setCell ⟨p, 2, none⟩ (.slice (some ⟨g, 0, none⟩) M.length c) = w2 := ⟨_, rfl⟩
  have hb2 : ∀ b, b ≠ p → w2.heap[b]? = w1.heap[b]? := fun b hb => hw2 ▸ Below.heap_setCell _ _ _ _ hb
  have hs2 : w2.heap.size = w1.heap.size := by rw [← hw2]; simp [World.setCell]
  have hbox2 := hw2 ▸ (box_set hbox1 (.slice (some ⟨g, 0, none⟩) M.length c)).2.2
  have t2 : Touch (fun b => F b ∨ b = g) w1 w2 := hw2 ▸ Touch.set w1 ⟨p, 2, none⟩ _ (.inl h.fp)
  have hne : ∀ {t : TypeId} {v : Value} {k s : Nat} {xs : List Value}, w.ownsRow N t s v k xs → t ≠ 75 → ∀ g', v.ownBlock = some g' → g' ≠ p := fun ho ht g' hg' e => by
    obtain ⟨_, _, cs, fr, hh⟩ := owns_lt ho hg'
    rw [e, h.box] at hh
    injection hh with hh
    injection hh with _ h2
    exact ht h2.symm
  have hneu : ∀ {t : TypeId} {v : Value} {k s : Nat} {xs : List Value}, w.ownsRow N t s v k xs → t ≠ 3 → ∀ g', v.ownBlock = some g' → g' ≠ gU := fun ho ht g' hg' e => by
    obtain ⟨_, _, cs, fr, hh⟩ := owns_lt ho hg'
    obtain ⟨_, _, cs', fr', hh'⟩ := owns_lt h.ups (g := gU) rfl
    rw [e, hh'] at hh
    injection hh with hh
    injection hh with _ h2
    exact ht h2.symm
  rw [hw2]
  refine ⟨⟨?_, ?_, fun x hx => ⟨⟨owns_block (h.attrs x hx).1.1 fun g' hg' => ?_, (h.attrs x hx).1.2⟩, fun g' hg' => .inl ((h.attrs x hx).2 g' hg')⟩, by rw [h.same, hro], ?_, ?_, hug, h.low, .inl h.fp, .inl h.fx, .inl h.fu, .inr rfl, hrf, fun b hb => ?_⟩, t1.trans t2 fun _ _ h => h⟩
  · rw [hml]
    exact hbox2
  · rw [hml]
    exact owns_block h.rows fun g' hg' => (hb2 g' (hne h.rows (by decide) g' hg')).trans (hb1 g' (hneu h.rows (by decide) g' hg'))
  · exact (hb2 g' (hne (h.attrs x hx).1.1 (by decide) g' hg')).trans (hb1 g' (hneu (h.attrs x hx).1.1 (by decide) g' hg'))
  · rw [hml, hup]
    exact Iw.block hu1 (hb2 gU fun e => hpu e.symm)
  · rw [hml]
    exact Iw.mono (Iw.block ho ((hb2 g fun e => hpg e.symm).trans (hb1 g fun e => hug e.symm))) hNK
  · rw [hs2, hs1]
    rcases hb with hb | hb
    · exact h.bd b hb
    · rw [hb]
      exact hgl.2
end Go.Proofs.Ytfnffplnoicjcaa.Ar

namespace Go.Proofs.Ytfnffplnoicjcaa.Ar
set_option maxRecDepth 100000
set_option linter.unusedSimpArgs false
set_option linter.unusedVariables false
open Go.RowKit Ba
open Ro (At Ro Cw ros Rr Ow Nw Fr Att Ap Sh cells acells app_num below_new infoI)
theorem Iw.drew {N : Nat} {w : World} {g c n : Nat} {l : List Int} (h : Iw N w g c n l) (k : Nat) : Iw N (w.drewN k) g c n l := owns_block h fun _ _ => rfl
/-- append of numbers onto an empty slice, at a step of a region that draws. -/
theorem step_ints {ops : Array Oper} {o : Oper} {a : Act} {K : Act → World → Prop} {Q : Exit → Act → World → Prop} {E : Prop} (W : World) {wc : World} (hgd : o.guard = none) (s x : Operand)
    (ho : o.op = .call { callee := .builtin .append, args := #[s, x], argTypes := #[29, 29] })
    (g0 c0 : Nat) (hs : a.eval s = .slice (some ⟨g0, 0, none⟩) 0 c0) (hown : Iw W.heap.size wc g0 c0 0 []) (hb : Below W.heap.size W wc) (g c n : Nat) (ys : List Int) (hx : a.eval x = .slice (some ⟨g, 0, none⟩) n c) (hn : ys.length = n) (hr : Li W g ys) (h0 : 0 < n)
    (hl : n ≤ 2000000)
    (h : ∀ g' c' w', Iw W.heap.size w' g' c' n ys → Below W.heap.size W w' → wc.heap.size ≤ w'.heap.size → (∀ gB cB nB lB, gB ≠ g0 → Iw W.heap.size wc gB cB nB lB → Iw W.heap.size w' gB cB nB lB) → (g' = g0 ∨ g' = wc.heap.size) → K (a.put o.dst (.slice (some ⟨g', 0, none⟩) n c')) w') :
    if Region.wanted o (yielded ops a.tmps) = true then Oper.wp Try.prog o a wc K Q else E := by
  obtain ⟨i0, hi, hz0, hz1, hz2⟩ := info_parts infoI
  have hr' := Li.below hr hb
  have hw0 := hown.lt
  refine step_append_lies _ hgd s x 29 ho W.heap.size 3 i0 (.int .i64 0) 1 8 Try.underlying29 hi hz0 hz1 hz2 rfl (by decide) _ 0 [] hs hown ⟨g, 0, none⟩ n c (ys.map iv) hx (by rw [List.length_map, hn, Nat.mul_one]) (fun j u hu => ?_) (fun u hu => ?_) h0 (by unfold maxLen; omega) (by omega) hb.size wc.heap.size rfl ?_
  · have hj : j < ys.length := by
      have := (List.getElem?_eq_some_iff.1 hu).1
      simpa using this
    rw [WideShapes.add_plain, Nat.zero_add, hr'.2 j hj]
    rw [List.getElem?_map, List.getElem?_eq_getElem hj] at hu
    exact hu
  · obtain ⟨y, _, rfl⟩ := List.mem_map.1 hu
    rfl
  · intro g' c' w' h1 h2 h3 _
    rw [Nat.zero_add] at h1 ⊢
    rw [List.nil_append] at h1
    refine h g' c' w' h1 (hb.grown h2 hb.size fun k hk => ?_) h2.size (fun gB cB nB lB hne hB => ?_) ?_
    · obtain rfl : g0 = k := Option.some.inj hk
      exact hw0.1
    · exact Iw.block hB (h2.block gB hB.lt.2 fun e => hne (Option.some.inj e))
    · rcases h3 with h3 | h3
      · exact .inl (Option.some.inj h3).symm
      · exact .inr h3
theorem below_dN11 {B : Nat} {w w' : World} (h : Below B w w') (n : Nat) : Below B w (w'.drewN n) := ⟨h.1, h.2, h.3, h.4, h.5⟩
theorem Iw.made2 (w : World) : Iw w.heap.size ((w.alloc (.cells #[] 3)).alloc (.cells #[] 3)) w.heap.size 0 0 [] ∧ Iw w.heap.size ((w.alloc (.cells #[] 3)).alloc (.cells #[] 3)) (w.heap.size + 1) 0 0 [] := by
  have e : (w.alloc (.cells #[] 3)).heap.size = w.heap.size + 1 := by simp
  rw [← e]
  refine ⟨(Iw.made w).block ?_, (Iw.made (w.alloc (.cells #[] 3))).mono (by simp)⟩
  exact (below_new (w.alloc (.cells #[] 3)) (.cells #[] 3)).block _ (by simp)
set_option maxRecDepth 100000 in
set_option maxHeartbeats 2000000 in
theorem refSet1 {p N : Nat} {F : Nat → Prop} {M : List Nd} (P A n : Nat) (w : World) (D : Doc11 w N F p M) (W : Wf M) (hm : M.length ≤ 5000) (hP : P < M.length) (hn : n < M.length) (hA : A ≤ ((nd M P).kids.filter (· != n)).length) :
    Calls Try.prog 64 #[.pointer (some ⟨p, 0, none⟩), .int .i64 P, .int .i64 A, .int .i64 n] w fun e w' => e = .returned (.tuple #[]) ∧ ∃ F', Doc11 w' N F' p (setM M P A n) ∧ Next w w' F F' := by
  obtain ⟨rk, gX, cX, gU, cU, gR, cR, lX, D⟩ := D
  have R := D.rd
  have hxu := R.u; have hxr := R.r
  have HLU := Lib.hid R.ups; have HLR := Lib.hid R.ranks
  have hl0 : 0 < M.length := by omega
  have hl1 : M.length ≤ 2000000 := by omega
  have HUL := Lib.hid (show (M.map Nd.up).length = M.length by rw [List.length_map])
  have HRL := Lib.hid D.rf.len
  have HD := Lib.hid D
  have hb1 := below_new w (.cells #[] 3)
  have HB1 := Lib.hid hb1
  have HB2 := Lib.hid (bt hb1 (below_new (w.alloc (.cells #[] 3)) (.cells #[] 3)))
  have hpl := D.p_lt
  clear hb1
  clear D R
  go_enter Try.func64, Try.ntmps64
  go_upto_region 0 with (fail)
  go_cut [8, 9] from 12 to 23 (fun s8 s9 wx => ∃ g1 c1 g2 c2, s8 = .slice (some ⟨g1, 0, none⟩) M.length c1 ∧ s9 = .slice (some ⟨g2, 0, none⟩) M.length c2 ∧ Iw w.heap.size wx g1 c1 M.length (M.map Nd.up) ∧ Iw w.heap.size wx g2 c2 M.length rk ∧ g1 ≠ g2 ∧ Below w.heap.size w wx)
  case first =>
    go_region_held3 (fun w' => w'.cell? ⟨p, 1, none⟩ = some (.slice (some ⟨gU, 0, none⟩) M.length cU) ∧ w'.cell? ⟨p, 2, none⟩ = some (.slice (some ⟨gR, 0, none⟩) M.length cR)) (first | exact ⟨e1, e2⟩ | exact ⟨d1, d2⟩ | exact ⟨hxu, hxr⟩ | go_keep) (first
      | (refine step_ints w (by rfl) (.tmp 12) (.tmp 16) (by rfl) _ _ (by simp [Act.eval, Act.put]; exact ⟨rfl, rfl⟩) (by first | exact Iw.made w | exact (Iw.made2 w).1 | exact (Iw.made2 w).2) (by first | exact HB1.out | exact below_dN11 HB1.out 1 | exact below_dN11 HB1.out 2 | exact HB2.out | exact below_dN11 HB2.out 1 | exact below_dN11 HB2.out 2 | exact below_dN11 HB2.out 3) gU cU _ (M.map Nd.up) (by simp [Act.eval, Act.put]) HUL.out HLU.out hl0 hl1 ?_; intro g1 c1 w1 ho1 hb1 hz1 hk1 hg1; have d1 := (hb1.cell (p := ⟨p, 1, none⟩) hpl).trans hxu; have d2 := (hb1.cell (p := ⟨p, 2, none⟩) hpl).trans hxr; have HO1 := Lib.hid ho1; have HBB1 := Lib.hid hb1; have HZ1 := Lib.hid hz1; have HK1 := Lib.hid hk1; have HG1 := Lib.hid hg1; clear ho1 hb1 hz1 hk1 hg1)
      | (refine step_ints w (by rfl) (.tmp 18) (.tmp 22) (by rfl) _ _ (by simp [Act.eval, Act.put]; exact ⟨rfl, rfl⟩) (by first | exact HK1.out _ _ _ _ (by simp) (Iw.made2 w).2 | exact HK1.out _ _ _ _ (by simp) (Iw.made2 w).1 | exact (Iw.made w1).mono HBB1.out.size) (by first | exact HBB1.out | exact below_dN11 HBB1.out 1 | exact bt HBB1.out (below_new w1 _) | exact below_dN11 (bt HBB1.out (below_new w1 _)) 1) gR cR _ rk (by simp [Act.eval, Act.put]) HRL.out HLR.out hl0 hl1 ?_; intro g2 c2 w2 ho2 hb2 hz2 hk2 hg2; have e1 := (hb2.cell (p := ⟨p, 1, none⟩) hpl).trans hxu; have e2 := (hb2.cell (p := ⟨p, 2, none⟩) hpl).trans hxr)
      | fail)
    all_goals go_wp2
    all_goals go_meet
    all_goals
      have hlt1 := HO1.out.lt
      have hgg1 := HG1.out
      simp [World.drew, World.drewN] at hgg1 hg2
      refine ⟨g1, c1, g2, c2, rfl, rfl, ?_, ho2, by omega, hb2⟩
      first
        | exact hk2 _ _ _ _ (by omega) HO1.out
        | exact hk2 _ _ _ _ (by omega) (HO1.out.block ((below_new w1 (.cells #[] 3)).block _ HO1.out.lt.2))
  case rest =>
  obtain ⟨g1, c1, g2, c2, rfl, rfl, ho1, ho2, hg12, hbc⟩ := hcut
  rename World => wc
  have hN : N ≤ w.heap.size := Nat.le_of_lt (Nat.lt_of_le_of_lt HD.out.low hpl)
  have hl1' := ho1.lt
  have hl2' := ho2.lt
  obtain ⟨y1, hy1, hf1⟩ := ho1.some (j := n) hn
  have hst1 := ho1.store n (-1)
  have hb3 := hbc.setCell (p := ⟨g1, n, none⟩) hl1'.1 (.int .i64 (-1))
  have D3 := HD.out.below hb3
  have hp1 := D3.rd.u; have hpf1 := box_frozen D3.box 1
  have key := HD.out.newUps (M' := takeOut M n) hN hb3 (by rw [up_take]; exact hst1) (ro_take M n) (rf_take HD.out.rf n)
  have ho23 : Iw w.heap.size (wc.setCell ⟨g1, n, none⟩ (.int .i64 (-1))) g2 c2 M.length rk := ho2.block (Below.heap_setCell _ _ _ _ fun e => hg12 e.symm)
  have hdep : (wc.setCell ⟨g1, n, none⟩ (.int .i64 (-1))).cell? ⟨p, 1, none⟩ = some (.slice (some ⟨gU, 0, none⟩) M.length cU) := hp1
  obtain ⟨w4, hw4⟩ : ∃ w4, (wc.setCell ⟨g1, n, none⟩ (.int .i64 (-1))).setCell ⟨p, 1, none⟩ (.slice (some ⟨g1, 0, none⟩) M.length c1) = w4 := ⟨_, rfl⟩
  have HW4 := Lib.hid hw4
  rw [hw4] at key
  have ho24 : Iw w.heap.size w4 g2 c2 M.length rk := ho23.block (hw4 ▸ Below.heap_setCell _ _ _ _ (by show g2 ≠ p; omega))
  obtain ⟨ks, hks⟩ : ∃ ks, (nd M P).kids.filter (· != n) = ks := ⟨_, rfl⟩
  have hkk : kidsI (takeOut M n) P = ks := by rw [kidsI_nat, nd_take]; exact hks
  have hka : ∀ c ∈ ks, c < M.length := fun c hc => by
    rw [← hks, List.mem_filter] at hc
    exact ((W.kid P c).1 hc.1).1
  have hkl : ks.length ≤ 5000 := Nat.le_trans (nodup_bound (hks ▸ (W.nodup P).sublist List.filter_sublist) hka) hm
  have HRF := Lib.hid (rf_set W HD.out.rf hP hn hA)
  rw [hks] at HRF hA
  have hcall := refKids1 (P : Int) w4 key.1.rd (W.take n) key.1.rf (by rw [len_take]; exact hm)
  rw [hkk] at hcall
  have HCALL := Lib.hid hcall
  have HK := Lib.hid key; have HO2 := Lib.hid ho24; have HKA := Lib.hid hka; have HKS := Lib.hid hks
  have H12 := Lib.hid hg12; have HN := Lib.hid hN; have HL2 := Lib.hid hl2'.1; have HL1 := Lib.hid hl1'.1
  have HRL2 := Lib.hid HD.out.rf.len
  clear hst1 hb3 D3 key ho23 ho24 ho1 ho2 hbc hg12 hN HB1 HB2 HUL HRL HLU HLR hxu hxr hcall hka hkk hks hw4 hdep
  go_wp2_with fail
  rw [HW4.out]
  refine HCALL.out.mono ?_
  rintro e w5 ⟨v5, rfl, hnw, hb5⟩
  obtain ⟨A5, c5, rfl, hat⟩ := nw_at hnw
  have HAT := Lib.hid hat; have HB5 := Lib.hid hb5
  have HO5 := Lib.hid (show Iw w.heap.size w5 g2 c2 M.length rk from HO2.out.block (hb5.block g2 HO2.out.lt.2))
  clear hnw hb5 hat hy1 hf1 hp1 hpf1 HW4 HCALL
  go_wp2
  go_loopw [11] (fun i wr => ∃ t : Nat, i = .int .i64 t ∧ t ≤ ks.length ∧ Iw w.heap.size wr g2 c2 M.length (ranked rk ks t) ∧ Hid (Touch (fun b => b = g2) w5 wr)) (fun i _ => ks.length - (intOf i).toNat)
  case atStart => exact ⟨0, rfl, Nat.zero_le _, HO5.out, Lib.hid (Touch.refl _ _)⟩
  case round =>
    obtain ⟨t, rfl, ht, ho, hto⟩ := hrel
    by_cases hlt : t < ks.length
    · obtain ⟨b, rfl, hb0, hb1, hbc⟩ := HAT.out (by omega)
      have hbg : b ≠ g2 := by have := HO2.out.lt; omega
      have hkc : wr.cell? ⟨b, t, none⟩ = some (.int .i64 (ks[t] : Nat)) := (World.cell?_of_block (a := ⟨b, t, none⟩) (hto.out.block b hb1 hbg)).trans (hbc t hlt)
      have hka := HKA.out _ (List.getElem_mem hlt)
      obtain ⟨c, hc⟩ : ∃ c, ks[t] = c := ⟨_, rfl⟩
      rw [hc] at hkc hka
      obtain ⟨y, hy, hyf⟩ := ho.some (j := c) hka
      have hst := ho.store c (2 * t + 1)
      have hnew : ranked rk ks (t + 1) = (ranked rk ks t).set c (2 * t + 1) := by rw [ranked, List.getElem?_eq_getElem hlt, hc]; rfl
      rw [← hnew] at hst
      have hto2 := Lib.hid (hto.out.trans (Touch.set (F := fun b => b = g2) wr ⟨g2, c, none⟩ (.int .i64 (2 * t + 1)) rfl) fun _ _ h => h)
      have HST := Lib.hid hst
      have hci : (c : Int) < M.length := by omega
      have hti : (t : Int) < ks.length := by omega
      clear hst hnew hc hto hbc ho
      go_wp2
      go_roundw
      case rel => exact ⟨t + 1, by go_num, by omega, HST.out, hto2⟩
      case measure => (simp [intOf]; try omega)
    · obtain rfl : t = ks.length := by omega
      have D5 := HK.out.1.below HB5.out
      have hnf : ∀ b, (F b ∨ b = g1) → ¬ b = g2 := fun b hb e => by
        have h2 := HL2.out
        rcases hb with hb | hb
        · have h1 := HD.out.bd b hb
          omega
        · exact H12.out (hb.symm.trans e)
      have D6 := D5.touch hto.out hnf
      have D7 := D6.touch (Touch.set (F := fun b => b = g2) wr ⟨g2, n, none⟩ (.int .i64 (2 * A)) rfl) hnf
      obtain ⟨y2, hy2, hf2⟩ := ho.some (j := n) hn
      have ho7 := ho.store n (2 * A)
      obtain ⟨y7, hy7, hf7⟩ := Iw.some (show Iw N (wr.setCell ⟨g2, n, none⟩ (.int .i64 (2 * A))) g1 c1 M.length _ from by have h := D7.ups; rw [len_take] at h; exact h) (j := n) hn
      have hfb := box_frozen D7.box 2
      have hpb := D7.rd.r
      have key := D7.newRanks (M' := setM M P A n) (K := w.heap.size) HN.out (by rw [len_take]; exact ho7) (fun h => hnf g2 h rfl) (by rw [up_set, up_take]) (by rw [ro_set, ro_take]) HRF.out
      have htt : Touch F w (wr.setCell ⟨g2, n, none⟩ (.int .i64 (2 * A))) := by
        refine (HK.out.2.1.trans (G := fun b => b = g2) ?_ fun x hx e => ?_)
        · exact ((Touch.of_below (F := fun b => b = g2) HB5.out).trans hto.out fun _ _ h => h).trans (Touch.set (F := fun b => b = g2) wr ⟨g2, n, none⟩ (.int .i64 (2 * A)) rfl) fun _ _ h => h
        · have h2 := HL2.out
          omega
      rw [len_take] at key hpb
      have KEY := Lib.hid key; have HTT := Lib.hid htt
      have hni : (n : Int) < M.length := by omega
      clear D5 D6 D7 ho7 hnf key htt hto ho
      go_wp2
      go_end0
      refine ⟨rfl, _, ⟨_, gX, cX, g1, c1, g2, c2, lX, KEY.out.1⟩, ?_, fun b hb => .inl (.inl hb), fun b hb => ?_⟩
      · refine HTT.out.trans KEY.out.2 fun x hx h => ?_
        have h1 := HL1.out
        have h2 := HL2.out
        rcases h with (h | h) | h
        · exact h
        · omega
        · omega
      · have hb9 := KEY.out.1.bd b hb
        have h1 := HL1.out
        have h2 := HL2.out
        rcases hb with (h | h) | h
        · exact .inl h
        · exact .inr ⟨by omega, hb9⟩
        · exact .inr ⟨by omega, hb9⟩
end Go.Proofs.Ytfnffplnoicjcaa.Ar

namespace Go.Proofs.Ytfnffplnoicjcaa.Ar
set_option linter.unusedSimpArgs false
set_option linter.unusedVariables false
open Go.RowKit Ba
open Ro (At Ro Cw ros Rr Ow Nw Fr Att Ap Sh cells acells app_num below_new infoI info_row len_cells)
/-- The document's box and its three slices, each as long as it is. -/
structure RP (w : World) (N : Nat) (F : Nat → Prop) (p : Nat) (nX nU nR : Nat) (gX cX gU cU gR cR : Nat) (lX : List Cw) (lU lR : List Int) : Prop where
  box : w.heap[p]? = some (.cells #[.slice (some ⟨gX, 0, none⟩) nX cX, .slice (some ⟨gU, 0, none⟩) nU cU, .slice (some ⟨gR, 0, none⟩) nR cR] 75)
  rows : w.ownsRow N 47 5 (.slice (some ⟨gX, 0, none⟩) nX cX) nX (lX.flatMap cells)
  attrs : ∀ x ∈ lX, Fr N w x ∧ ∀ g, atBlock x = some g → F g
  ups : Iw N w gU cU nU lU
  ranks : Iw N w gR cR nR lR
  apart : gU ≠ gR
  low : N ≤ p
  fp : F p
  fx : F gX
  fu : F gU
  fr : F gR
  bd : ∀ b, F b → b < w.heap.size
theorem RD.rp {w : World} {N : Nat} {F : Nat → Prop} {p : Nat} {M : List Nd} {rk : List Int} {gX cX gU cU gR cR : Nat} {lX : List Cw} (h : RD w N F p M rk gX cX gU cU gR cR lX) :
    RP w N F p M.length M.length M.length gX cX gU cU gR cR lX (M.map Nd.up) rk := ⟨h.box, h.rows, h.attrs, h.ups, h.ranks, h.apart, h.low, h.fp, h.fx, h.fu, h.fr, h.bd⟩
section
variable {w : World} {N : Nat} {F : Nat → Prop} {p nX nU nR gX cX gU cU gR cR : Nat} {lX : List Cw} {lU lR : List Int}
theorem RP.doc {M : List Nd} (h : RP w N F p M.length M.length M.length gX cX gU cU gR cR lX lU lR) (hX : ros lX = M.map Nd.ro) (hU : lU = M.map Nd.up) (hR : Rf M lR) : RD w N F p M lR gX cX gU cU gR cR lX :=
  ⟨h.box, h.rows, h.attrs, hX, hU ▸ h.ups, h.ranks, h.apart, h.low, h.fp, h.fx, h.fu, h.fr, hR, h.bd⟩
theorem RP.p_lt (h : RP w N F p nX nU nR gX cX gU cU gR cR lX lU lR) : p < w.heap.size := (Array.getElem?_eq_some_iff.1 h.box).1
theorem RP.hN (h : RP w N F p nX nU nR gX cX gU cU gR cR lX lU lR) : N ≤ w.heap.size := Nat.le_of_lt (Nat.lt_of_le_of_lt h.low h.p_lt)
theorem RP.cell (h : RP w N F p nX nU nR gX cX gU cU gR cR lX lU lR) : w.cell? ⟨p, 0, none⟩ = some (.slice (some ⟨gX, 0, none⟩) nX cX) ∧ w.cell? ⟨p, 1, none⟩ = some (.slice (some ⟨gU, 0, none⟩) nU cU) ∧ w.cell? ⟨p, 2, none⟩ = some (.slice (some ⟨gR, 0, none⟩) nR cR) :=
  ⟨cell_of_row w p 0 _ _ _ h.box, cell_of_row w p 1 _ _ _ h.box, cell_of_row w p 2 _ _ _ h.box⟩
theorem RP.below {w' : World} (h : RP w N F p nX nU nR gX cX gU cU gR cR lX lU lR) (hb : Below w.heap.size w w') : RP w' N F p nX nU nR gX cX gU cU gR cR lX lU lR := by
  have hk : ∀ b, b < w.heap.size → w'.heap[b]? = w.heap[b]? := fun b hb' => hb.block b hb'
  refine ⟨(hk p h.p_lt).trans h.box, owns_block h.rows fun g hg => hk g (owns_lt h.rows hg).2.1, fun x hx => ⟨Fr.block (h.attrs x hx).1 fun g hg => hk g (owns_lt (h.attrs x hx).1.1 hg).2.1, (h.attrs x hx).2⟩, h.ups.block (hk _ h.ups.lt.2), h.ranks.block (hk _ h.ranks.lt.2), h.apart, h.low, h.fp, h.fx, h.fu, h.fr, fun b hb' => Nat.lt_of_lt_of_le (h.bd b hb') hb.size⟩
/-- Blocks of other types are others. -/
theorem type_ne {b1 b2 : Nat} {c1 c2 : Array Value} {f1 f2 : Nat × Nat} {t1 t2 : TypeId} (h1 : w.heap[b1]? = some (.cells c1 t1 f1)) (h2 : w.heap[b2]? = some (.cells c2 t2 f2)) (h : t1 ≠ t2) : b1 ≠ b2 := fun e => by
  rw [e, h2] at h1
  injection h1 with h1
  injection h1 with _ h3
  exact h h3.symm
theorem RP.obj (h : RP w N F p nX nU nR gX cX gU cU gR cR lX lU lR) : (∃ c f, w.heap[gX]? = some (.cells c 47 f)) ∧ (∃ c f, w.heap[gU]? = some (.cells c 3 f)) ∧ ∃ c f, w.heap[gR]? = some (.cells c 3 f) := by
  have key : ∀ {t : TypeId} {v : Value} {n s : Nat} {xs : List Value} {g : Nat}, w.ownsRow N t s v n xs → v.ownBlock = some g → ∃ c f, w.heap[g]? = some (.cells c t f) := fun {t v n s xs g} ho hg => by
    rcases ho.2 with ⟨hv, _⟩ | ⟨g', cap, cur, hv, hg', hh, rest⟩
    · rw [hv] at hg
      cases hg
    · rw [hv] at hg
      obtain rfl : g' = g := Option.some.inj hg
      exact ⟨_, _, hh⟩
  exact ⟨key h.rows rfl, key h.ups rfl, key h.ranks rfl⟩
theorem at_obj {N : Nat} {w : World} {x : Cw} (h : Fr N w x) {g : Nat} (hg : atBlock x = some g) : ∃ c f, w.heap[g]? = some (.cells c 62 f) := by
  rcases h.1.2 with ⟨hv, _⟩ | ⟨g', cap, cur, hv, hg', hh, rest⟩
  · unfold atBlock at hg
    rw [hv] at hg
    cases hg
  · unfold atBlock at hg
    rw [hv] at hg
    obtain rfl : g' = g := Option.some.inj hg
    exact ⟨_, _, hh⟩
/-- Other rows. -/
theorem RP.putX {w' : World} (h : RP w N F p nX nU nR gX cX gU cU gR cR lX lU lR) (t : Touch (fun b => b = gX) w w') {g' n' c' : Nat} {lX' : List Cw} (ho : w'.ownsRow N 47 5 (.slice (some ⟨g', 0, none⟩) n' c') n' (lX'.flatMap cells)) (hg : g' = gX ∨ w.heap.size ≤ g') (ha : ∀ x ∈ lX', Fr N w' x ∧ ∀ b, atBlock x = some b → F b ∨ w.heap.size ≤ b) :
    RP (w'.setCell ⟨p, 0, none⟩ (.slice (some ⟨g', 0, none⟩) n' c')) N (Wide w w' F) p n' nU nR g' c' gU cU gR cR lX' lU lR ∧ Next w (w'.setCell ⟨p, 0, none⟩ (.slice (some ⟨g', 0, none⟩) n' c')) F (Wide w w' F) := by
  obtain ⟨⟨_, _, oX⟩, ⟨_, _, oU⟩, ⟨_, _, oR⟩⟩ := h.obj
  have hpX := type_ne h.box oX (by decide)
  have hpU := type_ne h.box oU (by decide)
  have hpR := type_ne h.box oR (by decide)
  have hXU := type_ne oX oU (by decide)
  have hXR := type_ne oX oR (by decide)
  have hbox := (t.block p h.p_lt hpX).trans h.box
  have hU : Iw N w' gU cU nU lU := h.ups.block (t.block gU h.ups.lt.2 hXU.symm)
  have hR : Iw N w' gR cR nR lR := h.ranks.block (t.block gR h.ranks.lt.2 hXR.symm)
  have hgl := (owns_lt ho (g := g') rfl)
  obtain ⟨w2, hw2⟩ : ∃ w2, w'.setCell ⟨p, 0, none⟩ (.slice (some ⟨g', 0, none⟩) n' c') = w2 := ⟨_, rfl⟩
  have hb2 : ∀ b, b ≠ p → w2.heap[b]? = w'.heap[b]? := fun b hb => hw2 ▸ Below.heap_setCell _ _ _ _ hb
  have hs2 : w2.heap.size = w'.heap.size := by rw [← hw2]; simp [World.setCell]
  have hne : ∀ {g : Nat} {c f} {tt : TypeId}, w'.heap[g]? = some (.cells c tt f) → tt ≠ 75 → g ≠ p := fun hh ht => type_ne hh hbox ht
  rw [hw2]
  refine ⟨⟨hw2 ▸ (box_set hbox _).1, owns_block ho fun g hg' => ?_, fun x hx => ⟨Fr.block (ha x hx).1 fun g hg' => ?_, fun g hg' => ?_⟩, hU.block (hb2 _ hpU.symm), hR.block (hb2 _ hpR.symm), h.apart, h.low, .inl h.fp, ?_, .inl h.fu, .inl h.fr, fun b hb => ?_⟩, ⟨?_, fun b hb => .inl hb, fun b hb => ?_⟩⟩
  · refine hb2 g ?_
    rcases ho.2 with ⟨hv, _⟩ | ⟨g'', cap, cur, hv, _, hh, _⟩
    · cases hv
    · obtain rfl : g' = g := Option.some.inj hg'
      injection hv with hv
      injection hv with hv
      injection hv with hv
      rw [← hv] at hh
      exact hne hh (by decide)
  · obtain ⟨_, _, hh⟩ := at_obj (ha x hx).1 hg'
    exact hb2 g (hne hh (by decide))
  · rcases (ha x hx).2 g hg' with hf | hf
    · exact .inl hf
    · exact .inr ⟨hf, (owns_lt (ha x hx).1.1 hg').2.1⟩
  · rcases hg with hg | hg
    · rw [hg]
      exact .inl h.fx
    · exact .inr ⟨hg, hgl.2.1⟩
  · rw [hs2]
    rcases hb with hb | hb
    · exact Nat.lt_of_lt_of_le (h.bd b hb) t.size
    · exact hb.2
  · have t1 : Touch F w w' := t.mono fun b _ e => e ▸ h.fx
    exact t1.trans (hw2 ▸ Touch.set (F := F) w' ⟨p, 0, none⟩ _ h.fp) fun _ _ h => h
  · rw [hs2]
    exact hb
/-- Other parents. -/
theorem RP.putU {w' : World} (h : RP w N F p nX nU nR gX cX gU cU gR cR lX lU lR) (t : Touch (fun b => b = gU) w w') {g' n' c' : Nat} {lU' : List Int} (ho : Iw N w' g' c' n' lU') (hg : g' = gU ∨ w.heap.size ≤ g') :
    RP (w'.setCell ⟨p, 1, none⟩ (.slice (some ⟨g', 0, none⟩) n' c')) N (Wide w w' F) p nX n' nR gX cX g' c' gR cR lX lU' lR ∧ Next w (w'.setCell ⟨p, 1, none⟩ (.slice (some ⟨g', 0, none⟩) n' c')) F (Wide w w' F) := by
  obtain ⟨⟨_, _, oX⟩, ⟨_, _, oU⟩, ⟨_, _, oR⟩⟩ := h.obj
  have hpX := type_ne h.box oX (by decide)
  have hpU := type_ne h.box oU (by decide)
  have hpR := type_ne h.box oR (by decide)
  have hXU := type_ne oX oU (by decide)
  have hbox := (t.block p h.p_lt hpU).trans h.box
  have hlX := (owns_lt h.rows (g := gX) rfl).2.1
  have hX := owns_block (w' := w') h.rows fun g hg' => by
    obtain rfl : gX = g := Option.some.inj hg'
    exact t.block gX hlX hXU
  have hR : Iw N w' gR cR nR lR := h.ranks.block (t.block gR h.ranks.lt.2 h.apart.symm)
  have hA : ∀ x ∈ lX, Fr N w' x := fun x hx => Fr.block (h.attrs x hx).1 fun g hg' => by
    obtain ⟨_, _, hh⟩ := at_obj (h.attrs x hx).1 hg'
    exact t.block g (owns_lt (h.attrs x hx).1.1 hg').2.1 (type_ne hh oU (by decide))
  obtain ⟨w2, hw2⟩ : ∃ w2, w'.setCell ⟨p, 1, none⟩ (.slice (some ⟨g', 0, none⟩) n' c') = w2 := ⟨_, rfl⟩
  have hb2 : ∀ b, b ≠ p → w2.heap[b]? = w'.heap[b]? := fun b hb => hw2 ▸ Below.heap_setCell _ _ _ _ hb
  have hs2 : w2.heap.size = w'.heap.size := by rw [← hw2]; simp [World.setCell]
  have hgp : g' ≠ p := by
    rcases hg with hg | hg
    · rw [hg]
      exact hpU.symm
    · have := h.p_lt
      omega
  have hgR : g' ≠ gR := by
    rcases hg with hg | hg
    · rw [hg]
      exact h.apart
    · have := h.ranks.lt
      omega
  rw [hw2]
  refine ⟨⟨hw2 ▸ (box_set hbox _).2.1, owns_block hX fun g hg' => ?_, fun x hx => ⟨Fr.block (hA x hx) fun g hg' => ?_, fun g hg' => .inl ((h.attrs x hx).2 g hg')⟩, ho.block (hb2 _ hgp), hR.block (hb2 _ hpR.symm), hgR, h.low, .inl h.fp, .inl h.fx, ?_, .inl h.fr, fun b hb => ?_⟩, ⟨?_, fun b hb => .inl hb, fun b hb => ?_⟩⟩
  · obtain rfl : gX = g := Option.some.inj hg'
    exact hb2 gX hpX.symm
  · obtain ⟨_, _, hh⟩ := at_obj (hA x hx) hg'
    exact hb2 g (type_ne hh hbox (by decide))
  · rcases hg with hg | hg
    · rw [hg]
      exact .inl h.fu
    · exact .inr ⟨hg, ho.lt.2⟩
  · rw [hs2]
    rcases hb with hb | hb
    · exact Nat.lt_of_lt_of_le (h.bd b hb) t.size
    · exact hb.2
  · have t1 : Touch F w w' := t.mono fun b _ e => e ▸ h.fu
    exact t1.trans (hw2 ▸ Touch.set (F := F) w' ⟨p, 1, none⟩ _ h.fp) fun _ _ h => h
  · rw [hs2]
    exact hb
/-- Other ranks. -/
theorem RP.putR {w' : World} (h : RP w N F p nX nU nR gX cX gU cU gR cR lX lU lR) (t : Touch (fun b => b = gR) w w') {g' n' c' : Nat} {lR' : List Int} (ho : Iw N w' g' c' n' lR') (hg : g' = gR ∨ w.heap.size ≤ g') :
    RP (w'.setCell ⟨p, 2, none⟩ (.slice (some ⟨g', 0, none⟩) n' c')) N (Wide w w' F) p nX nU n' gX cX gU cU g' c' lX lU lR' ∧ Next w (w'.setCell ⟨p, 2, none⟩ (.slice (some ⟨g', 0, none⟩) n' c')) F (Wide w w' F) := by
  obtain ⟨⟨_, _, oX⟩, ⟨_, _, oU⟩, ⟨_, _, oR⟩⟩ := h.obj
  have hpX := type_ne h.box oX (by decide)
  have hpU := type_ne h.box oU (by decide)
  have hpR := type_ne h.box oR (by decide)
  have hXR := type_ne oX oR (by decide)
  have hbox := (t.block p h.p_lt hpR).trans h.box
  have hlX := (owns_lt h.rows (g := gX) rfl).2.1
  have hX := owns_block (w' := w') h.rows fun g hg' => by
    obtain rfl : gX = g := Option.some.inj hg'
    exact t.block gX hlX hXR
  have hU : Iw N w' gU cU nU lU := h.ups.block (t.block gU h.ups.lt.2 h.apart)
  have hA : ∀ x ∈ lX, Fr N w' x := fun x hx => Fr.block (h.attrs x hx).1 fun g hg' => by
    obtain ⟨_, _, hh⟩ := at_obj (h.attrs x hx).1 hg'
    exact t.block g (owns_lt (h.attrs x hx).1.1 hg').2.1 (type_ne hh oR (by decide))
  obtain ⟨w2, hw2⟩ : ∃ w2, w'.setCell ⟨p, 2, none⟩ (.slice (some ⟨g', 0, none⟩) n' c') = w2 := ⟨_, rfl⟩
  have hb2 : ∀ b, b ≠ p → w2.heap[b]? = w'.heap[b]? := fun b hb => hw2 ▸ Below.heap_setCell _ _ _ _ hb
  have hs2 : w2.heap.size = w'.heap.size := by rw [← hw2]; simp [World.setCell]
  have hgp : g' ≠ p := by
    rcases hg with hg | hg
    · rw [hg]
      exact hpR.symm
    · have := h.p_lt
      omega
  have hgU : gU ≠ g' := by
    rcases hg with hg | hg
    · rw [hg]
      exact h.apart
    · have := h.ups.lt
      omega
  rw [hw2]
  refine ⟨⟨hw2 ▸ (box_set hbox _).2.2, owns_block hX fun g hg' => ?_, fun x hx => ⟨Fr.block (hA x hx) fun g hg' => ?_, fun g hg' => .inl ((h.attrs x hx).2 g hg')⟩, hU.block (hb2 _ hpU.symm), ho.block (hb2 _ hgp), hgU, h.low, .inl h.fp, .inl h.fx, .inl h.fu, ?_, fun b hb => ?_⟩, ⟨?_, fun b hb => .inl hb, fun b hb => ?_⟩⟩
  · obtain rfl : gX = g := Option.some.inj hg'
    exact hb2 gX hpX.symm
  · obtain ⟨_, _, hh⟩ := at_obj (hA x hx) hg'
    exact hb2 g (type_ne hh hbox (by decide))
  · rcases hg with hg | hg
    · rw [hg]
      exact .inl h.fr
    · exact .inr ⟨hg, ho.lt.2⟩
  · rw [hs2]
    rcases hb with hb | hb
    · exact Nat.lt_of_lt_of_le (h.bd b hb) t.size
    · exact hb.2
  · have t1 : Touch F w w' := t.mono fun b _ e => e ▸ h.fr
    exact t1.trans (hw2 ▸ Touch.set (F := F) w' ⟨p, 2, none⟩ _ h.fp) fun _ _ h => h
  · rw [hs2]
    exact hb
end
end Go.Proofs.Ytfnffplnoicjcaa.Ar
