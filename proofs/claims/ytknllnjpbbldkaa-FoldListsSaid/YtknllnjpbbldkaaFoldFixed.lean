/-
  Walk of stage 2: boltinglaw02.fixed: the calls whose answers the document fixes: it returns true.
-/
import Derived.Test.YtknllnjpbbldkaaFoldWalkJ
import Derived.Test.YtknllnjpbbldkaaFoldWalkG
import Derived.Test.YtknllnjpbbldkaaFoldWalkC
namespace Go.Proofs.Ytknllnjpbbldkaa.Fo
open Go.RowKit Ba Fm

theorem sv_lit (w : World) (l : List ByteArray) : Sv (w.alloc (.cells (l.map sc).toArray 9)) (w.alloc (.cells (l.map sc).toArray 9)).heap.size (.slice (some ⟨w.heap.size, 0, none⟩) l.length l.length) l := by
  refine ⟨_, l.length, rfl, Nat.le_refl _, (fun e => by cases e), fun _ => ⟨w.heap.size, 0, rfl, by simp, fun j hj => ?_⟩⟩
  rw [Nat.zero_add, World.cell?_alloc_at _ _ _ _ rfl]
  simp [sc, hj]
theorem Sv.rd {w : World} {N n c : Nat} {A : Option Addr} {l : List ByteArray} (h : Sv w N (.slice A n c) l) : Rd w N A l := by
  obtain ⟨A', c', e, _, _, hr⟩ := h
  injection e with e
  rw [e]
  exact hr
theorem below_one (w : World) (o : Obj) : Below w.heap.size w (w.alloc o) := (Below.refl _ _).alloc (Nat.le_refl _) _

abbrev sa : ByteArray := ⟨#[97]⟩
abbrev sb : ByteArray := ⟨#[98]⟩
abbrev sd : ByteArray := ⟨#[100]⟩
theorem lt_ab : lt sa sb = true := by kernel_rfl
theorem lt_ba : lt sb sa = false := by kernel_rfl
theorem lt_ad : lt sa sd = true := by kernel_rfl
theorem y1 : Asc lt [sa, sd] := by
  refine asc_cons.2 ⟨fun b hb => ?_, asc_cons.2 ⟨fun b hb => ?_, asc_nil _⟩⟩
  · have := List.mem_singleton.1 hb
    subst this
    exact lt_ad
  · simp at hb
theorem y2 : below lt [sa, sd] ⟨#[99]⟩ = 1 := by kernel_rfl
theorem y2' : isIn ⟨#[99]⟩ [sa, sd] = false := by kernel_rfl
theorem y3 : below lt [sa, sd] sd = 1 := by kernel_rfl
theorem y3' : isIn sd [sa, sd] = true := by kernel_rfl
theorem y4 : B (lowL (L ⟨#[97, 66, 195, 132]⟩)) = ⟨#[97, 98, 195, 132]⟩ := by kernel_rfl
theorem y5 : decide (lowL (L ⟨#[79, 110]⟩) = lowL (L ⟨#[111, 78]⟩)) = true := by kernel_rfl
theorem y6 : decide (lowL (L ⟨#[97]⟩) = lowL (L ⟨#[98]⟩)) = false := by kernel_rfl
theorem y7 : B (trimL (L ⟨#[32, 97, 32, 98, 10]⟩)) = ⟨#[97, 32, 98]⟩ := by kernel_rfl
theorem y8 : wds ⟨#[32, 97, 32, 32, 98, 32]⟩ = [sa, sb] := by kernel_rfl
theorem y9 : srt lt [sb, sa, sb] = [sa, sb] := by kernel_rfl
theorem y10 : mns [sb, sa, sb] [sa] = [sb, sb] := by kernel_rfl

theorem sv1 (w : World) (x : ByteArray) : Sv (w.alloc (.cells #[.string x] 9)) (w.alloc (.cells #[.string x] 9)).heap.size (.slice (some ⟨w.heap.size, 0, none⟩) 1 1) [x] := sv_lit w [x]
theorem sv2 (w : World) (x y : ByteArray) : Sv (w.alloc (.cells #[.string x, .string y] 9)) (w.alloc (.cells #[.string x, .string y] 9)).heap.size (.slice (some ⟨w.heap.size, 0, none⟩) 2 2) [x, y] := sv_lit w [x, y]
theorem sv3 (w : World) (x y z : ByteArray) : Sv (w.alloc (.cells #[.string x, .string y, .string z] 9)) (w.alloc (.cells #[.string x, .string y, .string z] 9)).heap.size (.slice (some ⟨w.heap.size, 0, none⟩) 3 3) [x, y, z] := sv_lit w [x, y, z]

theorem find2 (w : World) (x y s : ByteArray) (n : Nat) (q : Bool) (ha : Asc lt [x, y]) (hn : below lt [x, y] s = n) (hq : isIn s [x, y] = q) :
    Calls Try.prog 27 #[.slice (some ⟨w.heap.size, 0, none⟩) 2 2, .string s] (w.alloc (.cells #[.string x, .string y] 9)) fun e w' => e = .returned (.tuple #[.int .i64 n, .bool q]) ∧ Below w.heap.size w w' := by
  have h := find_any (some ⟨w.heap.size, 0, none⟩) 2 [x, y] s (w.alloc (.cells #[.string x, .string y] 9)) (sv2 w x y).rd (by show 2 ≤ 8796093022208; omega) ha
  rw [hn, hq] at h
  exact h.mono fun e w' ⟨he, hb⟩ => ⟨he, bt (below_one w _) hb⟩

theorem equal2 (w : World) (N : Nat) (v : Value) (x y : ByteArray) (ho : Sown N w v [x, y]) :
    Calls Try.prog 19 #[v, .slice (some ⟨w.heap.size, 0, none⟩) 2 2] (w.alloc (.cells #[.string x, .string y] 9)) fun e w' => e = .returned (.bool true) ∧ Below w.heap.size w w' := by
  obtain ⟨A, c, rfl, _, _, hr⟩ := sv_own ho
  have hr' := (hr.below (below_one w (.cells #[.string x, .string y] 9)) (Nat.le_refl _)).more (below_one w (.cells #[.string x, .string y] 9)).size
  have h := equal_any A (some ⟨w.heap.size, 0, none⟩) c 2 [x, y] _ hr' (sv2 w x y).rd (by show 2 ≤ 8796093022208; omega)
  exact h.mono fun e w' ⟨he, hb⟩ => ⟨he, bt (below_one w _) hb⟩

theorem sorted3 (w : World) (x y z : ByteArray) (r : List ByteArray) (h : srt lt [x, y, z] = r) :
    Calls Try.prog 23 #[.slice (some ⟨w.heap.size, 0, none⟩) 3 3] (w.alloc (.cells #[.string x, .string y, .string z] 9)) fun e w' => ∃ v', e = .returned v' ∧ Sown w.heap.size w' v' r ∧ Below w.heap.size w w' := by
  have k := sorted_any _ [x, y, z] _ (sv3 w x y z) (by show 3 ≤ 1000000; omega)
  rw [h] at k
  exact k.mono fun e w' ⟨v, he, ho, hb⟩ => ⟨v, he, ho.mono (by simp), bt (below_one w _) hb⟩

theorem minus31 (w : World) (x y z s : ByteArray) (r : List ByteArray) (h : mns [x, y, z] [s] = r) :
    Calls Try.prog 24 #[.slice (some ⟨w.heap.size, 0, none⟩) 3 3, .slice (some ⟨w.heap.size + 1, 0, none⟩) 1 1] ((w.alloc (.cells #[.string x, .string y, .string z] 9)).alloc (.cells #[.string s] 9)) fun e w' => ∃ v', e = .returned v' ∧ Sown w.heap.size w' v' r ∧ Below w.heap.size w w' := by
  have e1 : (w.alloc (.cells #[.string x, .string y, .string z] 9)).heap.size = w.heap.size + 1 := by simp
  have h1 := ((sv3 w x y z).below (below_one _ (.cells #[.string s] 9)) (Nat.le_refl _)).more (below_one _ (.cells #[.string s] 9)).size
  have h2 := sv1 (w.alloc (.cells #[.string x, .string y, .string z] 9)) s
  rw [e1] at h2
  have k := minus_any _ _ [x, y, z] [s] _ h1 h2 (by show 3 ≤ 1000000; omega) (by show 1 ≤ 1000000; omega)
  rw [h] at k
  have hb2 := bt (below_one w (.cells #[.string x, .string y, .string z] 9)) (below_one _ (.cells #[.string s] 9))
  exact k.mono fun e w' ⟨v, he, ho, hb⟩ => ⟨v, he, ho.mono hb2.size, bt hb2 hb⟩

theorem words1 (w : World) (s : ByteArray) (r : List ByteArray) (hs : s.size ≤ 1000000) (h : wds s = r) :
    Calls Try.prog 18 #[.string s] w fun e w' => ∃ v, e = .returned v ∧ Sown w.heap.size w' v r ∧ Below w.heap.size w w' := by
  have k := words_any s w hs
  rw [h] at k
  exact k

theorem lower1 (w : World) (s r : ByteArray) (hs : s.size ≤ 140737488355328) (h : B (lowL (L s)) = r) : Calls Try.prog 11 #[.string s] w fun e w' => e = .returned (.string r) ∧ Below w.heap.size w w' := by
  have k := lower_any s w (by omega)
  rw [h] at k
  exact k
theorem same1 (w : World) (a b : ByteArray) (q : Bool) (ha : a.size ≤ 140737488355328) (hb : b.size ≤ 140737488355328) (h : decide (lowL (L a) = lowL (L b)) = q) : Calls Try.prog 13 #[.string a, .string b] w fun e w' => e = .returned (.bool q) ∧ Below w.heap.size w w' := by
  have k := same_any a b w (by omega) (by omega)
  rw [h] at k
  exact k
theorem trim1 (w : World) (s r : ByteArray) (hs : s.size ≤ 140737488355328) (h : B (trimL (L s)) = r) : Calls Try.prog 21 #[.string s] w fun e w' => e = .returned (.string r) ∧ w = w' := by
  have k := trim_any s w (by omega)
  rw [h] at k
  exact k
theorem space1 (w : World) (c : UInt8) (n : Int) (q : Bool) (hn : (c.toNat : Int) = n) (h : sp c = q) : Calls Try.prog 14 #[.int .u8 n] w fun e w' => e = .returned (.bool q) ∧ w = w' := by
  have k := space_any c w
  rw [h, hn] at k
  exact k
theorem letter1 (w : World) (c : UInt8) (n : Int) (q : Bool) (hn : (c.toNat : Int) = n) (h : lr c = q) : Calls Try.prog 16 #[.int .u8 n] w fun e w' => e = .returned (.bool q) ∧ w = w' := by
  have k := letter_any c w
  rw [h, hn] at k
  exact k
theorem z9 : sp 9 = true := by kernel_rfl
theorem z11 : sp 11 = false := by kernel_rfl
theorem z122 : lr 122 = true := by kernel_rfl
theorem z91 : lr 91 = false := by kernel_rfl

end Go.Proofs.Ytknllnjpbbldkaa.Fo
