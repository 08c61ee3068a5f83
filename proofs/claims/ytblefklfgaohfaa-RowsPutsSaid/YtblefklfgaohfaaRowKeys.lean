/-
  A set of names tells whether two attributes have the same name.
-/
import Derived.Test.YtblefklfgaohfaaRowMath
import Derived.Maps.OwnSet
namespace Go.Proofs.Ytblefklfgaohfaa.Ro
set_option linter.unusedVariables false
set_option linter.unusedSimpArgs false
open Go.RowKit Ba Go.Maps

def key (a : At) : Lit := .string a.name.data.toList
theorem key_is (a : At) : WideAt.IsKeyLit (key a) := trivial
theorem key_same (a b : At) : (key a).sameKey (key b) = decide (b.name = a.name) := by
  rw [Bool.eq_iff_iff, WideAt.sameKey_iff (key_is b), decide_eq_true_iff]
  constructor
  · intro h
    injection h with h
    exact (WideShapes.bytes_inj h).symm
  · intro h
    rw [key, key, h]

def fresh (acc : List Lit) : List At → Bool
  | [] => true
  | a :: r => !(acc.any fun y => y.sameKey (key a)) && fresh (acc ++ [key a]) r
theorem fold_len : ∀ (l : List At) (acc : List Lit), ((l.map key).foldl addKey acc).length ≤ acc.length + l.length ∧ (((l.map key).foldl addKey acc).length < acc.length + l.length ↔ fresh acc l = false)
  | [], acc => by simp [fresh]
  | a :: r, acc => by
    rw [List.map_cons, List.foldl_cons, addKey, fresh, List.length_cons]
    cases h : acc.any fun y => y.sameKey (key a) with
    | true =>
      rw [if_pos rfl]
      have := (fold_len r acc).1
      exact ⟨by omega, by simp; omega⟩
    | false =>
      rw [if_neg (by decide)]
      obtain ⟨h1, h2⟩ := fold_len r (acc ++ [key a])
      rw [List.length_append, List.length_cons, List.length_nil] at h1 h2
      exact ⟨by omega, by rw [Bool.not_false, Bool.true_and, ← h2]; omega⟩
theorem fresh_eq : ∀ (l : List At) (acc : List Lit), fresh acc l = (!twice l && l.all fun b => !acc.any fun y => y.sameKey (key b))
  | [], acc => rfl
  | a :: r, acc => by
    rw [fresh, fresh_eq r, twice, List.all_cons]
    have e : (r.all fun b => !(acc ++ [key a]).any fun y => y.sameKey (key b)) = ((r.all fun b => !acc.any fun y => y.sameKey (key b)) && !(r.any fun b => decide (b.name = a.name))) := by
      induction r with
      | nil => rfl
      | cons b r ih =>
        rw [List.all_cons, List.all_cons, List.any_cons, ih, List.any_append]
        simp only [List.any_cons, List.any_nil, Bool.or_false, key_same]
        cases acc.any (fun y => y.sameKey (key b)) <;> cases decide (b.name = a.name) <;> simp
    rw [e]
    cases acc.any (fun y => y.sameKey (key a)) <;> cases twice r <;> cases (r.any fun b => decide (b.name = a.name)) <;> simp
def names {H : Type} (l : List At) : DataW H := setOf (.agg []) (l.map key)
theorem names_snoc {H : Type} (l : List At) (a : At) : names (H := H) (l ++ [a]) = (names l).put (key a) (.agg []) := by rw [names, List.map_append, List.map_cons, List.map_nil, setOf_snoc]; rfl
theorem names_less {H : Type} (l : List At) : decide (Maps.size (names (H := H) l) < l.length) = twice l := by
  rw [names, size_setOf _ _ (by intro x hx; obtain ⟨a, _, rfl⟩ := List.mem_map.1 hx; exact key_is a)]
  have := (fold_len l []).2
  rw [fresh_eq, List.length_nil, Nat.zero_add] at this
  have e : (l.all fun b => !([] : List Lit).any fun y => y.sameKey (key b)) = true := by simp
  rw [e, Bool.and_true] at this
  rw [Bool.eq_iff_iff, decide_eq_true_iff, this]
  simp

end Go.Proofs.Ytblefklfgaohfaa.Ro
