/-
  Stage 15's laws: what they share: cuts, guards in boxes; what headers of known form ask.
-/
import Derived.Test.YthgpjhblbpiagaaHeadFixed
namespace Go.Proofs.Ythgpjhblbpiagaa.He
set_option maxRecDepth 100000
set_option linter.unusedSimpArgs false
set_option linter.unusedVariables false
open Go.RowKit Ba Fm Fo Go.Maps

theorem cut_any (x : Nat) (m : Nat) (M : Int) (hM : M = m) (w : World) : ∃ k : Nat, k ≤ x ∧ k ≤ m ∧ k = min x m ∧ ∀ ts t, (Builtin.min_ ts t #[.int .i64 x, .int .i64 M]).run Try.prog w = .ok (.int .i64 k) w := by
  refine ⟨min x m, by omega, by omega, rfl, fun ts t => ?_⟩
  rw [run_min_int2]
  congr 2
  split <;> omega
theorem cut_le (a : ByteArray) (k : Nat) : (a.extract 0 k).size ≤ k := by
  rw [← size_L, L_extract, List.drop_zero, Nat.sub_zero, List.length_take]; omega

/-- A guard in a box at b, its names the slice u. -/
structure Kb (w : World) (b : Nat) (g : Gd) (u : Value) : Prop where
  box : Hb w b #[.bool g.on, .bool g.report, u, .bool g.any, .bool g.twice]
  gv : Gv w w.heap.size (.agg #[.bool g.on, .bool g.report, u, .bool g.any, .bool g.twice]) g
theorem Kb.on {w w' : World} {b : Nat} {g : Gd} {u : Value} (h : Kb w b g u) (hb : Below w.heap.size w w') : Kb w' b g u := ⟨h.box.on hb, h.gv.on hb⟩
theorem Kb.at5 {w : World} {b : Nat} {g : Gd} {u : Value} (h : Kb w b g u) : w.cell? ⟨b, 0, none⟩ = some (.bool g.on) ∧ w.cell? ⟨b, 1, none⟩ = some (.bool g.report) ∧ w.cell? ⟨b, 2, none⟩ = some u ∧ w.cell? ⟨b, 3, none⟩ = some (.bool g.any) ∧ w.cell? ⟨b, 4, none⟩ = some (.bool g.twice) := h.box.at5
theorem Kb.names {w : World} {b : Nat} {g : Gd} {A : Option Addr} {n c : Nat} (h : Kb w b g (.slice A n c)) : n = g.names.length ∧ Rd w w.heap.size A g.names := by
  obtain ⟨A', c', e, _, _, hr⟩ := h.gv
  unfold gV at e
  injection e with e
  have e := Array.mk.inj e
  injection e with _ e
  injection e with _ e
  injection e with e _
  injection e with e1 e2 e3
  subst e1
  exact ⟨e2, hr⟩
/-- Parse, its answer put in a box. -/
theorem kb_new {w : World} {N : Nat} {A : Option Addr} {c : Nat} {g : Gd} (h : Sown N w (.slice A g.names.length c) g.names) : Kb (w.alloc (.cells #[.bool g.on, .bool g.report, .slice A g.names.length c, .bool g.any, .bool g.twice] 26)) w.heap.size g (.slice A g.names.length c) :=
  ⟨Hb.new _ _, gv_of (h.alloc _)⟩
theorem below_box {w0 w : World} (hb : Below w0.heap.size w0 w) (o : Obj) : Below w0.heap.size w0 (w.alloc o) := hb.alloc hb.size _

theorem bel_eq {w w1 w2 : World} {n : Nat} (h : Below n w w1) (he : w2.heap = w1.heap) (ho : w2.os = w1.os) (ht : w2.tape = w1.tape) (hp : w2.output = w1.output) : Below n w w2 := ⟨ho.trans h.os, ht.trans h.tape, hp.trans h.output, by rw [he]; exact h.size, fun b hb => by rw [he]; exact h.block b hb⟩
/-- A guard put into a box of its own once more. -/
theorem Kb.twin {w : World} {b : Nat} {g : Gd} {u : Value} (h : Kb w b g u) : Kb (w.alloc (.cells #[.bool g.on, .bool g.report, u, .bool g.any, .bool g.twice] 26)) w.heap.size g u :=
  ⟨Hb.new _ _, h.gv.on ((Below.refl _ _).alloc (Nat.le_refl _) _)⟩
theorem gv_set {w : World} {b j : Nat} {v x : Value} {g : Gd} {cs : Array Value} (h : Gv w w.heap.size v g) (hb : Hb w b cs) (hc : ∀ s : ByteArray, .string s ∉ cs.toList) : Gv (w.setCell ⟨b, j, none⟩ x) (w.setCell ⟨b, j, none⟩ x).heap.size v g := by
  obtain ⟨A, c, e, h1, h2, h3⟩ := h
  exact ⟨A, c, e, h1, h2, (rd_box h3 hb hc (gcell w b j x)).more (gcell w b j x).size⟩
theorem Kb.other {w : World} {b b' : Nat} {g : Gd} {u : Value} {cs : Array Value} (h : Kb w b g u) (hb : Hb w b' cs) (hc : ∀ s : ByteArray, .string s ∉ cs.toList) (hne : b ≠ b') (j : Nat) (x : Value) : Kb (w.setCell ⟨b', j, none⟩ x) b g u := ⟨h.box.other j x hne, gv_set h.gv hb hc⟩
theorem Kb.noStr {w : World} {b : Nat} {g : Gd} {A : Option Addr} {n c : Nat} (h : Kb w b g (.slice A n c)) : ∀ s : ByteArray, Value.string s ∉ (#[.bool g.on, .bool g.report, .slice A n c, .bool g.any, .bool g.twice] : Array Value).toList := by simp
theorem Kb.setAny {w : World} {b : Nat} {g : Gd} {A : Option Addr} {n c : Nat} (h : Kb w b g (.slice A n c)) (q : Bool) : Kb (w.setCell ⟨b, 3, none⟩ (.bool q)) b { g with any := q } (.slice A n c) := by
  refine ⟨h.box.set 3 (.bool q) (by simp), ?_⟩
  obtain ⟨A', c', e, h1, h2, h3⟩ := gv_set (j := 3) (x := .bool q) h.gv h.box h.noStr
  unfold gV at e
  refine ⟨A', c', ?_, h1, h2, h3⟩
  injection e with e
  have e := Array.mk.inj e
  injection e with _ e
  injection e with _ e
  injection e with e _
  rw [e]
  rfl
theorem Kb.setTwice {w : World} {b : Nat} {g : Gd} {A : Option Addr} {n c : Nat} (h : Kb w b g (.slice A n c)) (q : Bool) : Kb (w.setCell ⟨b, 4, none⟩ (.bool q)) b { g with twice := q } (.slice A n c) := by
  refine ⟨h.box.set 4 (.bool q) (by simp), ?_⟩
  obtain ⟨A', c', e, h1, h2, h3⟩ := gv_set (j := 4) (x := .bool q) h.gv h.box h.noStr
  unfold gV at e
  refine ⟨A', c', ?_, h1, h2, h3⟩
  injection e with e
  have e := Array.mk.inj e
  injection e with _ e
  injection e with _ e
  injection e with e _
  rw [e]
  rfl

/-! What is allowed. -/
theorem allow_any {g : Gd} {n : ByteArray} {h : Int} (ha : allowB g n h = true) : allowB { g with any := true } n h = true := by
  unfold allowB at ha ⊢
  simp only [Bool.and_eq_true, Bool.or_eq_true] at ha ⊢
  exact ⟨⟨ha.1.1, .inl trivial⟩, ha.2⟩
theorem allow_twice {g : Gd} {n : ByteArray} {h : Int} (ha : allowB g n h = true) : allowB { g with twice := true } n h = true := by
  unfold allowB at ha ⊢
  simp only [Bool.and_eq_true, Bool.or_eq_true] at ha ⊢
  exact ⟨ha.1, .inr trivial⟩
theorem allow_zero {g : Gd} {n : ByteArray} {h : Int} (ha : allowB g n h = true) : allowB g n 0 = true := by
  unfold allowB at ha ⊢
  simp only [Bool.and_eq_true, Bool.or_eq_true] at ha ⊢
  exact ⟨ha.1, .inl (by decide)⟩
theorem allow_name {g : Gd} {n : ByteArray} (hm : mayB n = true) (hn : n ∈ g.names) : allowB g n 0 = true := by
  unfold allowB
  rw [hm, isIn_yes hn]
  simp
theorem allow_one (g : Gd) (n : ByteArray) : allowB g n 1 = (allowB g n 0 && g.twice) := by
  unfold allowB
  simp
theorem allow_space (g : Gd) (n : ByteArray) (h : Int) : allowB g (n ++ ⟨#[32]⟩) h = false := by
  unfold allowB
  rw [mayB_space]
  rfl

/-! Headers of known form. -/
/-- The directives of a piece, of bytes. -/
def dirL (l : List UInt8) : List ByteArray := dirW ((wL [] l).map B)
theorem dir_B (l : List UInt8) : dir (B l) = dirL l := by unfold dir dirL wds; rw [L_B]
def dirsL (l : List UInt8) : List (List ByteArray) := (pL [] l).map dirL
theorem parts_L (s : ByteArray) : parts s = (dirsL (L s)).foldl stepD [] := by
  unfold parts pcs dirsL
  rw [List.map_map, show (dir ∘ B) = dirL from funext dir_B]
theorem dirsL_semi (a b : List UInt8) : dirsL (a ++ 59 :: b) = dirsL a ++ dirsL b := by unfold dirsL; rw [pL_joins, List.map_append]
theorem dirsL_none {a : List UInt8} (h : ∀ c ∈ a, ¬ c = 59) : dirsL a = [dirL a] := by unfold dirsL; rw [pL_none a [] h]; rfl
/-- A piece's first bytes. -/
theorem dirsL_ahead (a l : List UInt8) (ha : ∀ c ∈ a, ¬ c = 59) : ∃ h t, (∀ b : List UInt8, (∀ c ∈ b, ¬ c = 59) → dirsL (b ++ l) = dirL (b ++ h) :: t) := by
  obtain ⟨h, t, e⟩ := pL_form l
  refine ⟨h, t.map dirL, fun b hb => ?_⟩
  have key : ∀ (b cur : List UInt8), (∀ c ∈ b, ¬ c = 59) → pL cur (b ++ l) = pL (cur ++ b) l := by
    intro b
    induction b with
    | nil => intro cur _; simp
    | cons c b ih =>
      intro cur hb
      rw [List.cons_append, pL_no _ _ (hb c (by simp)), ih _ fun x hx => hb x (by simp [hx])]
      simp
  unfold dirsL
  rw [key b [] hb, List.nil_append, e]
  rfl
theorem wL_sep {c : UInt8} (h : sp c = true) (a b : List UInt8) : wL [] (a ++ c :: b) = wL [] a ++ wL [] b := wL_joins h b a []
theorem wL_front {c : UInt8} (h : sp c = true) (b : List UInt8) : wL [] (c :: b) = wL [] b := wL_sp0 b h
theorem dirL_behind (l : List UInt8) : dirL (l ++ [32]) = dirL l := by unfold dirL; rw [wL_behind (by decide)]
theorem dirsL_behind : ∀ (l cur : List UInt8), (pL cur (l ++ [32])).map dirL = (pL cur l).map dirL
  | [], cur => by
    rw [List.nil_append, pL_no _ _ (by decide), pL_end, pL_end, List.map_cons, List.map_cons, dirL_behind]
  | c :: l, cur => by
    rw [List.cons_append]
    by_cases h : c = 59
    · rw [pL_semi _ _ h, pL_semi _ _ h, List.map_cons, List.map_cons, dirsL_behind l []]
    · rw [pL_no _ _ h, pL_no _ _ h, dirsL_behind l _]
theorem fold_keeps {x : ByteArray} : ∀ (ds out : List (List ByteArray)), isIn x (heads out) = true → isIn x (heads (ds.foldl stepD out)) = true
  | [], out, h => h
  | d :: ds, out, h => by
    rw [List.foldl_cons]
    refine fold_keeps ds _ ?_
    unfold stepD
    split
    · exact h
    · split
      · exact h
      · rw [heads_append]
        exact isIn_yes (List.mem_append_left _ (isIn_of h))

/-- A piece that begins with a word and a space. -/
theorem dirL_word {a : List UInt8} (ha : ns a) (h0 : a ≠ []) {c : UInt8} (hc : sp c = true) (l : List UInt8) : dirL (a ++ c :: l) = lo (B a) :: (wL [] l).map B := by
  unfold dirL
  rw [wL_sep hc, wL_one a [] ha (by simpa using h0)]
  rfl
def bT : List UInt8 := [116, 114, 117, 115, 116, 101, 100, 45, 116, 121, 112, 101, 115]
def bG : List UInt8 := [84, 114, 117, 115, 116, 101, 100, 45, 84, 89, 80, 69, 83]
def bR : List UInt8 := [114, 101, 113, 117, 105, 114, 101, 45, 116, 114, 117, 115, 116, 101, 100, 45, 116, 121, 112, 101, 115, 45, 102, 111, 114]
def bS : List UInt8 := [39, 115, 99, 114, 105, 112, 116, 39]
theorem loT : lo (B bT) = kNames := by kernel_rfl
theorem loG : lo (B bG) = kNames := by kernel_rfl
theorem loR : lo (B bR) = kOn := by kernel_rfl
theorem s59 {l : List UInt8} (h : l.all (fun c => !(c == 59)) = true) : ∀ c ∈ l, ¬ c = 59 := fun c hc e => by
  have := List.all_eq_true.1 h c hc
  rw [e] at this
  cases this
theorem nsT : ns bT := by unfold ns; decide
theorem nsG : ns bG := by unfold ns; decide
theorem nsR : ns bR := by unfold ns; decide
theorem nsS : ns bS := by unfold ns; decide
theorem dirL_T (l : List UInt8) : dirL (bT ++ 32 :: l) = kNames :: (wL [] l).map B := by rw [dirL_word nsT (by decide) (by decide), loT]
theorem dirL_G (l : List UInt8) : dirL (9 :: (bG ++ 10 :: l)) = kNames :: (wL [] l).map B := by
  have : dirL (9 :: (bG ++ 10 :: l)) = dirL (bG ++ 10 :: l) := by unfold dirL; rw [wL_front (by decide)]
  rw [this, dirL_word nsG (by decide) (by decide), loG]

/-- Great letters, spaces, empty directives, and a second one make no difference. -/
theorem less (u m : List UInt8) (hm : ∀ c ∈ m, ¬ c = 59) :
    (dirsL (32 :: 59 :: 9 :: (bG ++ 10 :: (u ++ [32, 59, 32, 59])))).foldl stepD [] = (dirsL (bT ++ 32 :: u)).foldl stepD [] ∧
    (dirsL (bT ++ 32 :: (u ++ 59 :: (bT ++ 32 :: m)))).foldl stepD [] = (dirsL (bT ++ 32 :: u)).foldl stepD [] := by
  obtain ⟨h, t, e⟩ := dirsL_ahead [] u (fun c hc => by cases hc)
  have eT : dirsL (bT ++ 32 :: u) = (kNames :: (wL [] h).map B) :: t := by
    have := e (bT ++ [32]) (by decide)
    rw [List.append_assoc, List.append_assoc] at this
    exact this.trans (by rw [show bT ++ ([32] ++ h) = bT ++ 32 :: h from rfl, dirL_T])
  have eG : dirsL (9 :: (bG ++ 10 :: u)) = (kNames :: (wL [] h).map B) :: t := by
    have := e (9 :: (bG ++ [10])) (by decide)
    rw [show (9 :: (bG ++ [10])) ++ u = 9 :: (bG ++ 10 :: u) by simp, show (9 :: (bG ++ [10])) ++ h = 9 :: (bG ++ 10 :: h) by simp, dirL_G] at this
    exact this
  have hne : (kNames :: (wL [] h).map B) ≠ [] := by simp
  constructor
  · have e1 : (32 :: 59 :: 9 :: (bG ++ 10 :: (u ++ [32, 59, 32, 59])) : List UInt8) = [32] ++ 59 :: (((9 :: (bG ++ 10 :: u)) ++ [32]) ++ 59 :: ([32] ++ 59 :: [])) := by simp
    rw [e1, dirsL_semi, dirsL_semi, dirsL_semi]
    have e2 : dirsL ((9 :: (bG ++ 10 :: u)) ++ [32]) = dirsL (9 :: (bG ++ 10 :: u)) := dirsL_behind _ []
    have e3 : dirsL [32] = [[]] := by kernel_rfl
    have e4 : dirsL [] = [[]] := by kernel_rfl
    rw [e2, e3, e4, eG, eT]
    rw [List.foldl_append, List.foldl_append, List.foldl_append]
    simp only [List.foldl_cons, List.foldl_nil, stepD_nil]
  · have e1 : bT ++ 32 :: (u ++ 59 :: (bT ++ 32 :: m)) = (bT ++ 32 :: u) ++ 59 :: (bT ++ 32 :: m) := by simp
    rw [e1, dirsL_semi, dirsL_none (a := bT ++ 32 :: m), eT, List.foldl_append, dirL_T]
    · rw [List.foldl_cons, List.foldl_nil]
      refine stepD_old ?_
      show isIn kNames _ = true
      rw [List.foldl_cons]
      refine fold_keeps t _ ?_
      rw [stepD_new hne (by rfl)]
      rfl
    · intro c hc
      rcases List.mem_append.1 hc with hc | hc
      · exact s59 (l := bT) (by decide) c hc
      · rcases List.mem_cons.1 hc with rfl | hc
        · decide
        · exact hm c hc
/-- One directive alone. -/
theorem one_dir {s : ByteArray} {d : List ByteArray} (h : dirsL (L s) = [d]) (hd0 : d ≠ []) (r : Bool) : parseM s r = stepG (start r) d := by
  unfold parseM
  rw [parts_L, h, List.foldl_cons, List.foldl_nil, stepD_new hd0 rfl]
  rfl
theorem on_yes (u : List UInt8) (hu : ∀ c ∈ u, ¬ c = 59) (s : ByteArray) (hs : L s = bR ++ 32 :: (u ++ 32 :: bS)) (r : Bool) : parseM s r = ⟨true, r, [], true, true⟩ := by
  have e : dirsL (L s) = [kOn :: ((wL [] u).map B ++ [kScript])] := by
    rw [hs, dirsL_none (by
      intro c hc
      rcases List.mem_append.1 hc with hc | hc
      · exact s59 (l := bR) (by decide) c hc
      rcases List.mem_cons.1 hc with rfl | hc
      · decide
      rcases List.mem_append.1 hc with hc | hc
      · exact hu c hc
      rcases List.mem_cons.1 hc with rfl | hc
      · decide
      · exact s59 (l := bS) (by decide) c hc), dirL_word nsR (by decide) (by decide), loR, wL_sep (by decide), wL_one bS [] nsS (by decide), List.map_append]
    rfl
  rw [one_dir e (by simp)]
  unfold stepG
  rw [if_pos (show hd (kOn :: _) = kOn from rfl)]
  show (⟨isIn kScript ((wL [] u).map B ++ [kScript]), r, [], true, true⟩ : Gd) = _
  rw [isIn_yes (List.mem_append_right _ (by simp))]
theorem on_no (u : List UInt8) (hu : ∀ c ∈ u, ¬ c = 59) (s : ByteArray) (hs : L s = [120] ++ 32 :: u) (r : Bool) : parseM s r = ⟨false, r, [], true, true⟩ := by
  have e : dirsL (L s) = [lo (B [120]) :: (wL [] u).map B] := by
    rw [hs, dirsL_none (by
      intro c hc
      rcases List.mem_append.1 hc with hc | hc
      · exact s59 (l := [120]) (by decide) c hc
      rcases List.mem_cons.1 hc with rfl | hc
      · decide
      · exact hu c hc), dirL_word (by unfold ns; decide) (by decide) (by decide)]
  rw [one_dir e (by simp)]
  unfold stepG
  rw [if_neg (show ¬ hd (lo (B [120]) :: (wL [] u).map B) = kOn from (by decide : ¬ lo (B [120]) = kOn)), if_neg (show ¬ hd (lo (B [120]) :: (wL [] u).map B) = kNames from (by decide : ¬ lo (B [120]) = kNames))]
  rfl

end Go.Proofs.Ythgpjhblbpiagaa.He
