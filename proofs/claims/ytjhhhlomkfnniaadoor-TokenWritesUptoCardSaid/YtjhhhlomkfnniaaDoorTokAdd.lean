/-
  Walks of stage 6: tokens of the call's own in a reader; addText, addClosed. Walks of stage 6: commentOf. Walks of stage 6: addClosed, comment, contents of the reader. Walks of stage 6: contents, tag of the reader.
-/
import Derived.Test.YtjhhhlomkfnniaaDoorTokAttrs
import Derived.Test.YtjhhhlomkfnniaaDoorTokBegin
import Derived.Test.YtjhhhlomkfnniaaDoorNamesRaw
namespace Go.Proofs.YtjhhhlomkfnniaaDoor.To
set_option linter.unusedSimpArgs false
set_option linter.unusedVariables false
open Go.RowKit Ba Fm Fo Tm
open Ro (At acells len_acells below_new Sh Ra acells_one info_attr)
open Re (Tab)

/-- append of one row, in a block of its own, onto rows of the call's own. -/
theorem app_tok2 {ops : Array Oper} {rest : List Oper} {o : Oper} {a : Act} {Q : Exit → Act → World → Prop} (w : World) (hgd : o.guard = none) (s x : Operand)
    (ho : o.op = .call { callee := .builtin .append, args := #[s, x], argTypes := #[22, 22] })
    (N : Nat) (v : Value) (l : List Tw) (y : Tw) (hs : a.eval s = v) (hown : Ow N w v l) (hy : Att w w.heap.size y) (hap : Ap w N y) (g : Nat) (hgz : g = w.heap.size) (hx : a.eval x = .slice (some ⟨g, 0, none⟩) 1 1)
    (hl : l.length ≤ 4000000000) (hN : N ≤ w.heap.size)
    (h : ∀ v' w', Ow N w' v' (l ++ [y]) → (∀ w0, Below N w0 w → Below N w0 w') → (∀ z, Fr N w z → Fr N w' z) → w.grownBy w' v.ownBlock → wpList Tryd.prog ops Q rest (a.put o.dst v') w') :
    wpList Tryd.prog ops Q (o :: rest) a (w.alloc (tokO y)) := by
  subst hgz
  obtain ⟨i0, hi, hz0, hz1, hz2⟩ := info_parts info_tok
  have hown' : Ow N (w.alloc (tokO y)) v l := hown.alloc _
  have hsz : (w.alloc (tokO y)).heap.size = w.heap.size + 1 := by simp
  refine wpList_append_own _ hgd s x 22 ho N 35 i0 _ 5 72 Tryd.underlying22 hi hz0 hz1 hz2 rfl (by decide) v l.length (l.flatMap cells) hs hown'.1 ⟨w.heap.size, 0, none⟩ 1 1 (cells y) hx rfl (tok_cells_new w y) (cells_one y) (by unfold maxLen; omega) (by omega) (by omega) ?_
  intro v' w' ho2 hg2 _
  have hk : ∀ w0, Below N w0 w → Below N w0 w' := fun w0 hb => (hb.alloc hN _).grown hg2 (by omega) fun k hk => (World.ownsRow.lt hown'.1 k hk).1
  refine h v' w' ⟨?_, ?_⟩ hk (fun z hz => (hz.below (below_new w (tokO y))).grown hown'.1 hg2) ((World.grownBy_alloc w _ _).trans hg2)
  · rw [List.length_append, List.flatMap_append]
    simpa using ho2
  · intro z hz
    rcases List.mem_append.1 hz with hz | hz
    · exact ⟨(hown'.2 z hz).1.grown hown'.1 hg2 (hown'.2 z hz).2, (hown'.2 z hz).2.grown hown'.1 hg2⟩
    · obtain rfl := List.mem_singleton.1 hz
      have h1 : Att (w.alloc (tokO z)) (w.alloc (tokO z)).heap.size z := hy.boxed (Below.refl _ _) (tokO z)
      have h2 := hap.below (below_new w (tokO z))
      exact ⟨h1.grown hown'.1 hg2 h2, h2.grown hown'.1 hg2⟩


/-- Tokens of the call's own, their attributes too. -/
def Ot (N : Nat) (w : World) (v : Value) (l : List Tw) : Prop := w.ownsRow N 35 5 v l.length (l.flatMap cells) ∧ ∀ x ∈ l, Fr N w x
theorem Ot.ow {N : Nat} {w : World} {v : Value} {l : List Tw} (h : Ot N w v l) : Ow N w v l := ⟨h.1, fun x hx => ⟨(h.2 x hx).att, (h.2 x hx).ap⟩⟩
theorem Ot.nil (N : Nat) (w : World) : Ot N w (.slice none 0 0) [] := ⟨World.ownsRow_nil w N _ 5, fun _ h => by simp at h⟩
theorem Fr.ne {N b : Nat} {w : World} {x : Tw} (h : Fr N w x) {cs : Array Value} {t : TypeId} {fr : Nat × Nat} (hb : w.heap[b]? = some (.cells cs t fr)) (ht : t ≠ 37) : (Value.slice x.A x.tk.attrs.length x.c).ownBlock ≠ some b := by
  rcases h.1.2 with ⟨hv, _⟩ | ⟨g, cap, cur, hv, _, hh, _⟩
  · rw [hv]; simp [Value.ownBlock]
  · rw [hv]
    intro e
    have e : g = b := by simpa [Value.ownBlock] using e
    subst e
    rw [hb] at hh
    injection hh with hh
    injection hh with _ h2
    exact ht h2
theorem Ot.ne {N b : Nat} {w : World} {v : Value} {l : List Tw} (h : Ot N w v l) {cs : Array Value} {t : TypeId} {fr : Nat × Nat} (hb : w.heap[b]? = some (.cells cs t fr)) (ht : t ≠ 35) : v.ownBlock ≠ some b := by
  rcases h.1.2 with ⟨rfl, _⟩ | ⟨g, cap, cur, rfl, _, hh, _⟩
  · simp [Value.ownBlock]
  · intro e
    have e : g = b := by simpa [Value.ownBlock] using e
    subst e
    rw [hb] at hh
    injection hh with hh
    injection hh with _ h2
    exact ht h2
/-- They are kept where another block is written that is none of theirs. -/
theorem Ot.kept {N b : Nat} {w w' : World} {v : Value} {l : List Tw} (h : Ot N w v l) (hg : w.grownBy w' (some b)) {cs : Array Value} {t : TypeId} {fr : Nat × Nat} (hb : w.heap[b]? = some (.cells cs t fr)) (h1 : t ≠ 35) (h2 : t ≠ 37) : Ot N w' v l :=
  ⟨World.ownsRow.kept h.1 hg (.inr (h.ne hb h1)), fun x hx => ⟨World.ownsRow.kept (h.2 x hx).1 hg (.inr ((h.2 x hx).ne hb h2)), (h.2 x hx).2⟩⟩
theorem Ot.below {N : Nat} {w w' : World} {v : Value} {l : List Tw} (h : Ot N w v l) (hb : Below w.heap.size w w') : Ot N w' v l := ⟨(h.ow.below hb).1, fun x hx => (h.2 x hx).below hb⟩
theorem Ot.form {N : Nat} {w : World} {v : Value} {l : List Tw} (h : Ot N w v l) : ∃ A c, v = .slice A l.length c ∧ l.length ≤ c ∧ c ≤ maxLen ∧ (A = none → c = 0) ∧ Rr w w.heap.size A l := h.ow.form
theorem fr_none (N : Nat) (w : World) (t : Tk) (ht : t.attrs = []) : Fr N w ⟨t, none, 0⟩ := by
  refine ⟨?_, fun a ha => ?_⟩
  · show w.ownsRow N 37 2 (.slice none t.attrs.length 0) t.attrs.length (t.attrs.flatMap acells)
    rw [ht]
    exact World.ownsRow_nil w N _ 2
  · have : a ∈ t.attrs := ha
    rw [ht] at this
    cases this

/-- A reader in block b, that has these tokens. -/
def Rg (N : Nat) (w : World) (b : Nat) (s : ByteArray) (k : Nat) (l : List Tw) : Prop := ∃ V, Rc w b s k V ∧ Ot N w V l ∧ N ≤ b
/-- What changes but the reader's place, changes no token. -/
theorem Rg.step {N : Nat} {w w' : World} {b k m : Nat} {s : ByteArray} {V : Value} {l : List Tw} (h : Rc w b s k V) (ho : Ot N w V l) (hN : N ≤ b) (hg : w.grownBy w' (some b)) (h' : Rc w' b s m V) : Rg N w' b s m l ∧ ∀ w0, Below N w0 w → Below N w0 w' :=
  ⟨⟨V, h', ho.kept hg h (by decide) (by decide), hN⟩, fun w0 hb => hb.grown hg (by have := h.lt; omega) (fun j hj => by injection hj with hj; omega)⟩

/-- append of one token onto those of a reader, and what stands behind the store. -/
theorem Rg.add {N : Nat} {w w' : World} {b k : Nat} {s : ByteArray} {V v' : Value} {l : List Tw} {y : Tw} (h : Rc w b s k V) (ho : Ot N w V l) (hN : N ≤ b) (hy : Fr N w y)
    (hw : Ow N w' v' (l ++ [y])) (hb : ∀ w0, Below N w0 w → Below N w0 w') (hf : ∀ z, Fr N w z → Fr N w' z) (hg : w.grownBy w' V.ownBlock) :
    Rg N (w'.setCell ⟨b, 2, none⟩ v') b s k (l ++ [y]) ∧ ∀ w0, Below N w0 w → Below N w0 (w'.setCell ⟨b, 2, none⟩ v') := by
  have hrc : Rc w' b s k V := (hg.block b h.lt (fun e => ho.ne h (by decide) e.symm)).trans h
  have ht : Ot N w' v' (l ++ [y]) := ⟨hw.1, fun x hx => by
    rcases List.mem_append.1 hx with hx | hx
    · exact hf x (ho.2 x hx)
    · rw [List.mem_singleton.1 hx]; exact hf y hy⟩
  refine ⟨⟨v', hrc.set2 v', ht.kept (g_set w' b 2 v') hrc (by decide) (by decide), hN⟩, fun w0 h0 => (hb w0 h0).setCell hN _⟩

theorem L_ne {d : ByteArray} (h : 0 < d.size) : L d ≠ [] := fun e => by rw [← size_L, e] at h; exact absurd h (by decide)
theorem form1 {N : Nat} {w : World} {v : Value} {l : List Tw} {y : Tw} (h : Ow N w v (l ++ [y])) : ∃ A c, v = .slice A (l.length + 1) c := by
  obtain ⟨A, c, e, _⟩ := h.form
  exact ⟨A, c, by rw [e, List.length_append]; rfl⟩
theorem rc_over {N : Nat} {w w' : World} {b k : Nat} {s : ByteArray} {V : Value} {l : List Tw} (h : Rc w b s k V) (ho : Ot N w V l) (hg : w.grownBy w' V.ownBlock) : Rc w' b s k V := (hg.block b h.lt (fun e => ho.ne h (by decide) e.symm)).trans h
set_option maxRecDepth 100000 in
set_option maxHeartbeats 1000000 in
theorem addText_any (N b k : Nat) (s d : ByteArray) (l : List Tw) (w : World) (h : Rg N w b s k l) (hl : l.length ≤ 4000000000) :
    Calls Tryd.prog 31 #[rp b, .string d] w fun e w' => e = .returned (.tuple #[]) ∧ ∃ l', Rg N w' b s k l' ∧ tks l' = tks l ++ txt (L d) ∧ ∀ w0, Below N w0 w → Below N w0 w' := by
  obtain ⟨V, hr, ho, hN⟩ := h
  by_cases hp : 0 < d.size
  · have hd := L_ne hp
    have he : d.toList.isEmpty = false := by rw [toList_L]; simpa using hd
    have c2 := hr.c2; have f2 := hr.f 2
    have hz := hr.lt
    have hZ : N ≤ w.heap.size := by omega
    have hfr : Fr N w ⟨⟨0, ⟨#[]⟩, d, [], false⟩, none, 0⟩ := fr_none N w _ rfl
    have HR := Lib.hid hr; have HO := Lib.hid ho; have HF := Lib.hid hfr; have HD := Lib.hid hd
    clear hr ho hfr hd
    go_enter Tryd.func31, Tryd.ntmps31
    go_wp2_with (at_builtin; refine app_tok2 w rfl (.tmp 10) (.tmp 13) rfl N V l ⟨⟨0, ⟨#[]⟩, d, [], false⟩, none, 0⟩ rfl HO.out.ow HF.out.att HF.out.ap w.heap.size rfl rfl hl hZ ?_; intro v4 w4 how hk hf hg; obtain ⟨A4, cc4, rfl⟩ := form1 how; have hrc4 := rc_over HR.out HO.out hg; have c4 := hrc4.c2; have f4 := hrc4.f 2; have HK := Lib.hid hk; have HFF := Lib.hid hf; have HG := Lib.hid hg; have HOW := Lib.hid how; clear hk hf hg how hrc4 c2 f2)
    go_end0
    obtain ⟨r1, r2⟩ := Rg.add HR.out HO.out hN HF.out HOW.out HK.out HFF.out HG.out
    refine ⟨rfl, _, r1, ?_, r2⟩
    rw [tks_append]
    unfold txt
    rw [if_neg HD.out]
    show _ = _ ++ [(⟨0, B [], B (L d), [], false⟩ : Tk)]
    rw [B_L]
    rfl
  · have hd := isEmpty_L hp
    have he : d.toList.isEmpty = true := by rw [toList_L, hd]; rfl
    have hD : txt (L d) = [] := by unfold txt; rw [if_pos hd]
    have HR := Lib.hid hr; have HO := Lib.hid ho; have HD := Lib.hid hD
    clear hr ho hD hd
    go_enter Tryd.func31, Tryd.ntmps31
    go_wp2
    go_end0
    exact ⟨rfl, l, ⟨V, HR.out, HO.out, hN⟩, by rw [HD.out, List.append_nil], fun _ h => h⟩

end Go.Proofs.YtjhhhlomkfnniaaDoor.To

namespace Go.Proofs.YtjhhhlomkfnniaaDoor.To
set_option linter.unusedSimpArgs false
set_option linter.unusedVariables false
open Go.RowKit Ba Fm Fo Tm
open Ro (At acells len_acells below_new Sh Ra acells_one info_attr)

theorem pre_len {t l : List UInt8} (h : pre t l = true) : t.length ≤ l.length := by
  have h := of_decide_eq_true h
  have := congrArg List.length h
  rw [List.length_take] at this
  omega
theorem cend_no {l : List UInt8} (h : cend l = false) : pre [45, 45, 62] l = false ∧ pre [45, 45, 33, 62] l = false := by
  unfold cend at h
  exact Bool.or_eq_false_iff.1 h
theorem comm_gt {l : List UInt8} (h : pre [62] l = true) : comm l = ([], l.drop 1) := by unfold comm; rw [if_pos h]
theorem comm_dash {l : List UInt8} (h : pre [62] l = false) (h' : pre [45, 62] l = true) : comm l = ([], l.drop 2) := by unfold comm; rw [if_neg (by rw [h]; simp), if_pos h']
theorem comm_on {l : List UInt8} (h : pre [62] l = false) (h' : pre [45, 62] l = false) : comm l = (lead cend l, (trail cend l).drop (if pre [45, 45, 62] (trail cend l) = true then 3 else 4)) := by unfold comm; rw [if_neg (by rw [h]; simp), if_neg (by rw [h']; simp)]

set_option maxRecDepth 100000 in
set_option maxHeartbeats 4000000 in
theorem commentOf_any (s : ByteArray) (w : World) (hs : s.size ≤ 140737488351232) :
    Calls Tryd.prog 85 #[.string s] w fun e w' => ∃ n : Nat, e = .returned (.tuple #[.string (B (comm (L s)).1), .int .i64 n]) ∧ n ≤ s.size ∧ (L s).drop n = (comm (L s)).2 ∧ Below w.heap.size w w' := by
  have hs' : s.size ≤ 140737488355328 := by omega
  cases h1 : pre [62] (L s) with
  | true =>
    have hc := comm_gt h1
    have hl := pre_len h1
    rw [size_L] at hl
    have H1 := Lib.hid h1; have HC := Lib.hid hc; clear h1 hc
    go_enter Tryd.func85, Tryd.ntmps85
    go_wp2
    refine wp_loop_rounds 1 ?_
    rw [rounds_succ]
    go_wp2_with (go_at_call 91; refine (starts1 s _ _ [62] true hs' (by decide) rfl H1.out).mono ?_; rintro e w' ⟨rfl, rfl⟩)
    go_ret2
    refine ⟨1, ⟨?_, hl, ?_, ?_⟩⟩
    · rw [HC.out]; rfl
    · rw [HC.out]
    · exact below_new w _
  | false =>
  cases h2 : pre [45, 62] (L s) with
  | true =>
    have hc := comm_dash h1 h2
    have hl := pre_len h2
    rw [size_L] at hl
    have H1 := Lib.hid h1; have H2 := Lib.hid h2; have HC := Lib.hid hc; clear h1 h2 hc
    go_enter Tryd.func85, Tryd.ntmps85
    go_wp2
    refine wp_loop_rounds 2 ?_
    rw [rounds_succ]
    go_wp2_with (go_at_call 91; refine (starts1 s _ _ [62] false hs' (by decide) rfl H1.out).mono ?_; rintro e w' ⟨rfl, rfl⟩)
    rw [rounds_succ]
    go_wp2_with (go_at_call 91; refine (starts1 s _ _ [45, 62] true hs' (by decide) rfl H2.out).mono ?_; rintro e w' ⟨rfl, rfl⟩)
    go_ret2
    refine ⟨2, ⟨?_, hl, ?_, ?_⟩⟩
    · rw [HC.out]; rfl
    · rw [HC.out]
    · exact below_new w _
  | false =>
    have hc := comm_on h1 h2
    have H1 := Lib.hid h1; have H2 := Lib.hid h2; have HC := Lib.hid hc; clear h1 h2 hc
    go_enter Tryd.func85, Tryd.ntmps85
    go_wp2
    refine wp_loop_rounds 3 ?_
    rw [rounds_succ]
    go_wp2_with (go_at_call 91; refine (starts1 s _ _ [62] false hs' (by decide) rfl H1.out).mono ?_; rintro e w' ⟨rfl, rfl⟩)
    rw [rounds_succ]
    go_wp2_with (go_at_call 91; refine (starts1 s _ _ [45, 62] false hs' (by decide) rfl H2.out).mono ?_; rintro e w' ⟨rfl, rfl⟩)
    rw [rounds_succ]
    go_wp2
    go_loopw [23] (fun i wr => ∃ k : Nat, i = .int .i64 k ∧ Far cend s 0 k ∧ Below w.heap.size w wr) (fun i _ => s.size - (intOf i).toNat)
    case atStart => exact ⟨0, rfl, .start (Nat.zero_le _), below_new w _⟩
    case round =>
      obtain ⟨k, rfl, hf, hb⟩ := hrel
      have hks := hf.2.1
      by_cases hp : k < s.size
      · have hx : (s.extract k s.size).size ≤ 140737488355328 := Nat.le_trans (size_extract _ _ _) hs'
        have hxl := L_end s k
        have i0 : (0 : Int) ≤ (k : Int) := by omega
        have i1 : (k : Int) ≤ (s.size : Int) := by omega
        cases ha : pre [45, 45, 62] ((L s).drop k) with
        | true =>
          have hd := hf.done (.inl (by unfold cend; rw [ha]; rfl))
          have hl := pre_len ha
          rw [List.length_drop, size_L] at hl
          have HA := Lib.hid ha; have HD := Lib.hid hd; have HX := Lib.hid hxl; have HL := Lib.hid hl; have HB := Lib.hid hb; clear hf hb hxl ha hd hl
          go_wp2
          refine wp_loop_rounds 1 ?_
          rw [rounds_succ]
          go_wp2_with (go_at_call 91; refine (starts1 _ _ _ [45, 45, 62] true hx (by decide) rfl (by rw [HX.out]; exact HA.out)).mono ?_; rintro e w' ⟨rfl, rfl⟩)
          go_ret2
          have h3 := HL.out
          refine ⟨k + 3, ?_, by simp at h3; omega, ?_, ?_⟩
          · rw [HC.out, HD.out.1, List.drop_zero]; rfl
          · rw [HC.out]
            show _ = (trail cend (L s)).drop _
            have e := HD.out.2
            rw [List.drop_zero] at e
            rw [← e, if_pos HA.out, List.drop_drop]
          · exact bt HB.out (below_new _ _)
        | false =>
        cases hq : pre [45, 45, 33, 62] ((L s).drop k) with
        | true =>
          have hd := hf.done (.inl (by unfold cend; rw [hq, Bool.or_true]))
          have hl := pre_len hq
          rw [List.length_drop, size_L] at hl
          have HA := Lib.hid ha; have HQ := Lib.hid hq; have HD := Lib.hid hd; have HX := Lib.hid hxl; have HL := Lib.hid hl; have HB := Lib.hid hb; clear hf hb hxl ha hd hl hq
          go_wp2
          refine wp_loop_rounds 2 ?_
          rw [rounds_succ]
          go_wp2_with (go_at_call 91; refine (starts1 _ _ _ [45, 45, 62] false hx (by decide) rfl (by rw [HX.out]; exact HA.out)).mono ?_; rintro e w' ⟨rfl, rfl⟩)
          rw [rounds_succ]
          go_wp2_with (go_at_call 91; refine (starts1 _ _ _ [45, 45, 33, 62] true hx (by decide) rfl (by rw [HX.out]; exact HQ.out)).mono ?_; rintro e w' ⟨rfl, rfl⟩)
          go_ret2
          have h3 := HL.out
          refine ⟨k + 4, ?_, by simp at h3; omega, ?_, ?_⟩
          · rw [HC.out, HD.out.1, List.drop_zero]; rfl
          · rw [HC.out]
            show _ = (trail cend (L s)).drop _
            have e := HD.out.2
            rw [List.drop_zero] at e
            rw [← e, if_neg (by rw [HA.out]; simp), List.drop_drop]
          · exact bt HB.out (below_new _ _)
        | false =>
          have hf := hf.next hp (by unfold cend; rw [ha, hq]; rfl)
          have HA := Lib.hid ha; have HQ := Lib.hid hq; have HX := Lib.hid hxl; have HB := Lib.hid hb; have HF := Lib.hid hf; clear hf hb hxl ha hq
          go_wp2
          refine wp_loop_rounds 3 ?_
          rw [rounds_succ]
          go_wp2_with (go_at_call 91; refine (starts1 _ _ _ [45, 45, 62] false hx (by decide) rfl (by rw [HX.out]; exact HA.out)).mono ?_; rintro e w' ⟨rfl, rfl⟩)
          rw [rounds_succ]
          go_wp2_with (go_at_call 91; refine (starts1 _ _ _ [45, 45, 33, 62] false hx (by decide) rfl (by rw [HX.out]; exact HQ.out)).mono ?_; rintro e w' ⟨rfl, rfl⟩)
          rw [rounds_succ]
          go_wp2
          go_roundw
          case rel => exact ⟨k + 1, by go_num, HF.out, bt HB.out (below_new _ _)⟩
          case measure => simp [intOf]; omega
      · have hd := hf.done (.inr hp)
        have hn : (L s).drop k = [] := drop_nil s k hp
        have HD := Lib.hid hd; have HN := Lib.hid hn; have HB := Lib.hid hb; clear hf hb hd hn
        go_wp2
        go_ret2
        have e := HD.out.2
        rw [List.drop_zero, HN.out] at e
        have e2 := lead_trail cend (L s)
        rw [← e, List.append_nil] at e2
        refine ⟨s.size, ?_, Nat.le_refl _, ?_, HB.out⟩
        · rw [HC.out]
          show Ending.returned (.tuple #[.string s, .int .i64 s.size]) = Ending.returned (.tuple #[.string (B (lead cend (L s))), .int .i64 s.size])
          rw [e2, B_L]
        · rw [HC.out]
          show _ = (trail cend (L s)).drop _
          rw [← e, drop_nil s s.size (by omega)]
          rfl

end Go.Proofs.YtjhhhlomkfnniaaDoor.To

namespace Go.Proofs.YtjhhhlomkfnniaaDoor.To
set_option linter.unusedSimpArgs false
set_option linter.unusedVariables false
open Go.RowKit Ba Fm Fo Tm Nm
open Ro (At acells len_acells below_new Sh Ra acells_one info_attr)
open Re (Tab)
open Rm (dec)

theorem Rg.below {N : Nat} {w w' : World} {b k : Nat} {s : ByteArray} {l : List Tw} (h : Rg N w b s k l) (hb : Below w.heap.size w w') : Rg N w' b s k l ∧ Below N w w' := by
  obtain ⟨V, hr, ho, hN⟩ := h
  exact ⟨⟨V, hr.below hb, ho.below hb, hN⟩, hb.mono (by have := hr.lt; omega)⟩
theorem tab_below {N : Nat} {w w' : World} (h : Tab w) (hb : Below N w w') (hN : 0 < N) : Tab w' := by
  refine ⟨fun j v hv => ?_, Nat.lt_of_lt_of_le h.2 hb.size⟩
  rw [hb.cell (p := ⟨0, 0 + j, none⟩) hN]
  exact h.1 j v hv
/-- What stands behind a byte, if it stands here. -/
def past (q : UInt8) (l : List UInt8) : List UInt8 := if hd q l = true then l.drop 1 else l
theorem past_gt (l : List UInt8) : past 62 (from_ gt l) = (closed l).2 := from_drop (q := 62) (l := l)
theorem Rg.n {N : Nat} {w : World} {b k : Nat} {s : ByteArray} {l : List Tw} (h : Rg N w b s k l) : N ≤ b := h.choose_spec.2.2

set_option maxRecDepth 100000 in
set_option maxHeartbeats 2000000 in
theorem addClosed_any (N b k : Nat) (kd : Int) (s d : ByteArray) (l : List Tw) (w : World) (h : Rg N w b s k l) (hk : k ≤ s.size) (hs : s.size ≤ 140737488351232) (hl : l.length ≤ 4000000000) :
    Calls Tryd.prog 62 #[rp b, .int .i64 kd, .string d] w fun e w' => e = .returned (.tuple #[]) ∧ ∃ m l', m ≤ s.size ∧ (L s).drop m = past 62 ((L s).drop k) ∧ Rg N w' b s m l' ∧ tks l' = tks l ++ [⟨kd, B [], d, [], false⟩] ∧ Below N w w' := by
  obtain ⟨V, hr, ho, hN⟩ := h
  have c2 := hr.c2; have f2 := hr.f 2
  have hz := hr.lt
  have hZ : N ≤ w.heap.size := by omega
  have hfr : Fr N w ⟨⟨kd, ⟨#[]⟩, d, [], false⟩, none, 0⟩ := fr_none N w _ rfl
  have HR := Lib.hid hr; have HO := Lib.hid ho; have HF := Lib.hid hfr
  clear hr ho hfr
  go_enter Tryd.func62, Tryd.ntmps62
  go_wp2_with (at_builtin; refine app_tok2 w rfl (.tmp 10) (.tmp 14) rfl N V l ⟨⟨kd, ⟨#[]⟩, d, [], false⟩, none, 0⟩ rfl HO.out.ow HF.out.att HF.out.ap w.heap.size rfl rfl hl hZ ?_; intro v4 w4 how hk hf hg; obtain ⟨A4, cc4, rfl⟩ := form1 how; have hrc4 := rc_over HR.out HO.out hg; have c4 := hrc4.c2; have f4 := hrc4.f 2; have HK := Lib.hid hk; have HFF := Lib.hid hf; have HG := Lib.hid hg; have HOW := Lib.hid how; clear hk hf hg how hrc4 c2 f2)
  obtain ⟨r1, r2⟩ := Rg.add HR.out HO.out hN HF.out HOW.out HK.out HFF.out HG.out
  obtain ⟨V5, hr5, ho5, _⟩ := r1
  obtain ⟨q, hq⟩ : ∃ q, hd 62 ((L s).drop k) = q := ⟨_, rfl⟩
  have hdr := hd_drop (by assumption) hq
  have HD := Lib.hid hdr
  have HQ := Lib.hid hq
  clear hdr hq c4 f4
  refine (pass1 b k s V5 62 _ q _ hr5 (by assumption) (by omega) rfl HQ.out).mono ?_
  rintro e w6 ⟨rfl, h6, hg6⟩
  go_wp2
  go_end0
  obtain ⟨r3, r4⟩ := Rg.step hr5 ho5 hN hg6 h6
  refine ⟨rfl, k + q.toNat, _, HD.out.1, ?_, r3, ?_, r4 _ (r2 _ (Below.refl _ _))⟩
  · unfold past; rw [HQ.out]; exact HD.out.2
  · rw [tks_append]; rfl

set_option maxRecDepth 100000 in
set_option maxHeartbeats 2000000 in
theorem comment_any (N b k : Nat) (s : ByteArray) (l : List Tw) (w : World) (h : Rg N w b s k l) (hk : k ≤ s.size) (hs : s.size ≤ 140737488351232) (hl : l.length ≤ 4000000000) :
    Calls Tryd.prog 61 #[rp b] w fun e w' => e = .returned (.tuple #[]) ∧ ∃ m l', m ≤ s.size ∧ (L s).drop m = (comm ((L s).drop k)).2 ∧ Rg N w' b s m l' ∧ tks l' = tks l ++ [⟨3, B [], B (comm ((L s).drop k)).1, [], false⟩] ∧ Below N w w' := by
  obtain ⟨V, hr, ho, hN⟩ := h
  have c0 := hr.c0; have c1 := hr.c1
  have hz := hr.lt
  have hZ : N ≤ w.heap.size := by omega
  have hx : (s.extract k s.size).size ≤ 140737488351232 := Nat.le_trans (size_extract _ _ _) hs
  have hxl := L_end s k
  have hxs : (s.extract k s.size).size = s.size - k := by rw [← size_L, hxl, List.length_drop, size_L]
  have i0 : (0 : Int) ≤ (k : Int) := by omega
  have i1 : (k : Int) ≤ (s.size : Int) := by omega
  have HR := Lib.hid hr; have HO := Lib.hid ho; have HX := Lib.hid hxl; have HXS := Lib.hid hxs
  clear hr ho hxl hxs
  go_enter Tryd.func61, Tryd.ntmps61
  go_upto_region 0 with (fail)
  obtain ⟨C, hC⟩ : ∃ C, comm ((L s).drop k) = C := ⟨_, rfl⟩
  go_cut [2, 3] from 4 to 16 (fun s2 s3 wx => ∃ n : Nat, s2 = .string (B C.1) ∧ s3 = .int .i64 n ∧ k + n ≤ s.size ∧ (L s).drop (k + n) = C.2 ∧ Below w.heap.size w wx)
  case first =>
    go_region_held3 (fun w' => w'.cell? ⟨b, 0, none⟩ = some (.string s) ∧ w'.cell? ⟨b, 1, none⟩ = some (.int .i64 k)) (first | exact ⟨d0, d1⟩ | exact ⟨c0, c1⟩ | go_keep) (first
      | (go_at_call 85; refine (commentOf_any _ w.drew hx).mono ?_; rintro e w2 ⟨n, rfl, hn, hdn, hb2⟩; have hb2' := box_next w w2 hb2; have d0 := (hb2'.cell (p := ⟨b, 0, none⟩) hz).trans c0; have d1 := (hb2'.cell (p := ⟨b, 1, none⟩) hz).trans c1; have HB2 := Lib.hid hb2'; have HDN := Lib.hid hdn; clear hb2' hb2 hdn))
    all_goals go_wp2_with fail
    all_goals go_meet
    have hdn := HDN.out
    rw [HX.out, hC, List.drop_drop] at hdn
    refine ⟨n, ?_, rfl, by have := HXS.out; omega, hdn, HB2.out⟩
    rw [HX.out, hC]
  case rest =>
  obtain ⟨n, rfl, rfl, hnk, hdn, hb2'⟩ := hcut
  rename World => w2
  have hr2 : Rc w2 b s k V := HR.out.below hb2'
  have ho2 : Ot N w2 V l := HO.out.below hb2'
  have hZ2 : N ≤ w2.heap.size := Nat.le_trans hZ hb2'.size
  clear c0 c1
  have c2 := hr2.c2; have f2 := hr2.f 2
  have hfr : Fr N w2 ⟨⟨3, ⟨#[]⟩, B C.1, [], false⟩, none, 0⟩ := fr_none N w2 _ rfl
  have HC := Lib.hid hC
  have HR2 := Lib.hid hr2; have HO2 := Lib.hid ho2; have HF := Lib.hid hfr; have HB2 := Lib.hid hb2'; have HDN := Lib.hid hdn
  clear hr2 ho2 hfr hb2' hdn hC
  go_wp2_with (at_builtin; refine app_tok2 w2 rfl (.tmp 21) (.tmp 24) rfl N V l ⟨⟨3, ⟨#[]⟩, B C.1, [], false⟩, none, 0⟩ rfl HO2.out.ow HF.out.att HF.out.ap w2.heap.size rfl rfl hl hZ2 ?_; intro v4 w4 how hk hf hg; obtain ⟨A4, cc4, rfl⟩ := form1 how; have hrc4 := rc_over HR2.out HO2.out hg; have c4 := hrc4.c2; have f4 := hrc4.f 2; have c1 := hrc4.c1; have f1 := hrc4.f 1; have HK := Lib.hid hk; have HFF := Lib.hid hf; have HG := Lib.hid hg; have HOW := Lib.hid how; clear hk hf hg how hrc4 c2 f2)
  go_end0
  obtain ⟨r1, r2⟩ := Rg.add HR2.out HO2.out hN HF.out HOW.out HK.out HFF.out HG.out
  obtain ⟨V5, hr5, ho5, _⟩ := r1
  have h6 := hr5.set1 (k + n)
  obtain ⟨r3, r4⟩ := Rg.step hr5 ho5 hN (g_set _ b 1 _) h6
  refine ⟨rfl, _, _, hnk, ?_, r3, ?_, r4 _ (r2 _ (HB2.out.mono hZ))⟩
  · rw [HC.out]; exact HDN.out
  · rw [tks_append, HC.out]; rfl

end Go.Proofs.YtjhhhlomkfnniaaDoor.To

namespace Go.Proofs.YtjhhhlomkfnniaaDoor.To
set_option linter.unusedSimpArgs false
set_option linter.unusedVariables false
open Go.RowKit Ba Fm Fo Tm Nm
open Ro (At acells len_acells below_new Sh Ra acells_one info_attr)
open Re (Tab)
open Rm (dec)

theorem raw1 (n : ByteArray) (w : World) (q : Bool) (h : isIn n rawL = q) : Calls Tryd.prog 36 #[.string n] w fun e w' => e = .returned (.bool q) ∧ Below w.heap.size w w' := by
  subst h
  exact Na.raw_any n w
theorem soft1 (n : ByteArray) (w : World) (q : Bool) (h : isIn n softL = q) : Calls Tryd.prog 57 #[.string n] w fun e w' => e = .returned (.bool q) ∧ Below w.heap.size w w' := by
  subst h
  exact Na.soft_any n w
theorem cont_raw {n : ByteArray} {l : List UInt8} (h : isIn n rawL = true) : cont (L n) l = (txt (lead (isEnd (L n)) l), trail (isEnd (L n)) l) := by
  unfold cont rawB
  rw [B_L, if_pos h]
theorem cont_soft {n : ByteArray} {l : List UInt8} (h : isIn n rawL = false) (h' : isIn n softL = true) : cont (L n) l = (txt (dec (lead (isEnd (L n)) l)), trail (isEnd (L n)) l) := by
  unfold cont rawB softB
  rw [B_L, if_neg (by rw [h]; simp), if_pos h']
theorem cont_no {n : ByteArray} {l : List UInt8} (h : isIn n rawL = false) (h' : isIn n softL = false) : cont (L n) l = ([], l) := by
  unfold cont rawB softB
  rw [B_L, if_neg (by rw [h]; simp), if_neg (by rw [h']; simp)]
theorem len_txt (d : List UInt8) : (txt d).length ≤ 1 := by
  unfold txt
  split <;> simp
theorem tks_len {l l' : List Tw} {m : List Tk} {n : Nat} (h : tks l' = tks l ++ m) (hm : m.length ≤ n) : l'.length ≤ l.length + n := by
  have := congrArg List.length h
  rw [List.length_append, len_tks, len_tks] at this
  omega

set_option maxRecDepth 100000 in
set_option maxHeartbeats 2000000 in
theorem contents_any (N b k : Nat) (s nm : ByteArray) (l : List Tw) (w : World) (h : Rg N w b s k l) (hk : k ≤ s.size) (hs : s.size ≤ 1000000000) (hn : nm.size ≤ 140737488351232) (hl : l.length ≤ 4000000000) (hT : Tab w) (hN0 : 0 < N) :
    Calls Tryd.prog 30 #[rp b, .string nm] w fun e w' => e = .returned (.tuple #[]) ∧ ∃ m l', m ≤ s.size ∧ (L s).drop m = (cont (L nm) ((L s).drop k)).2 ∧ Rg N w' b s m l' ∧ tks l' = tks l ++ (cont (L nm) ((L s).drop k)).1 ∧ Below N w w' := by
  have hs' : s.size ≤ 140737488351232 := by omega
  cases hraw : isIn nm rawL with
  | true =>
    rw [cont_raw hraw]
    have HR := Lib.hid hraw; have HG := Lib.hid h; have HT := Lib.hid hT; clear hraw h hT
    go_enter Tryd.func30, Tryd.ntmps30
    go_wp2_with fail
    refine (raw1 nm w true HR.out).mono ?_
    rintro e w1 ⟨rfl, hb1⟩
    obtain ⟨g1, B1⟩ := HG.out.below hb1
    obtain ⟨V, hr, ho, hN⟩ := g1
    go_wp2_with fail
    refine (upToEnd_any b k s V nm hn w1 hr hk hs').mono ?_
    rintro e w2 ⟨rfl, m, hm, hd, h2, hg2⟩
    obtain ⟨g2, B2⟩ := Rg.step hr ho hN hg2 h2
    have B3 := B2 _ B1
    have HD := Lib.hid hd; clear hd hr ho hg2 h2 B2 B1 hb1
    go_wp2_with fail
    refine (addText_any N b m s _ l w2 g2 hl).mono ?_
    rintro e w3 ⟨rfl, l', g3, ht, B4⟩
    go_wp2
    go_end0
    rw [L_B] at ht
    exact ⟨rfl, m, l', hm, HD.out, g3, ht, B4 _ B3⟩
  | false =>
  cases hsoft : isIn nm softL with
  | true =>
    rw [cont_soft hraw hsoft]
    have HR := Lib.hid hraw; have HS := Lib.hid hsoft; have HG := Lib.hid h; have HT := Lib.hid hT; clear hraw h hT hsoft
    go_enter Tryd.func30, Tryd.ntmps30
    go_wp2_with fail
    refine (raw1 nm w false HR.out).mono ?_
    rintro e w0 ⟨rfl, hb0⟩
    go_wp2_with fail
    refine (soft1 nm w0 true HS.out).mono ?_
    rintro e w1 ⟨rfl, hb1⟩
    obtain ⟨g1, B1⟩ := HG.out.below (bt hb0 hb1)
    obtain ⟨V, hr, ho, hN⟩ := g1
    go_wp2_with fail
    refine (upToEnd_any b k s V nm hn w1 hr hk hs').mono ?_
    rintro e w2 ⟨rfl, m, hm, hd, h2, hg2⟩
    obtain ⟨g2, B2⟩ := Rg.step hr ho hN hg2 h2
    have B3 := B2 _ B1
    have hT2 := tab_below HT.out B3 hN0
    have hsz : (B (lead (isEnd (L nm)) ((L s).drop k))).size ≤ 140737488351232 := by
      rw [size_B]
      have := len_lead (isEnd (L nm)) ((L s).drop k)
      rw [List.length_drop, size_L] at this
      omega
    have HD := Lib.hid hd; clear hd hr ho hg2 h2 B2 B1 hb1 hb0
    go_wp2_with fail
    refine (Re.decode_any _ w2 hT2 hsz).mono ?_
    rintro e w3 ⟨rfl, hb3⟩
    obtain ⟨g3, B4⟩ := g2.below hb3
    have B5 := B3.trans B4
    clear g2 B3 hT2 hb3 B4
    go_wp2_with fail
    refine (addText_any N b m s _ l w3 g3 hl).mono ?_
    rintro e w4 ⟨rfl, l', g4, ht, B6⟩
    go_wp2
    go_end0
    rw [L_B, L_B] at ht
    exact ⟨rfl, m, l', hm, HD.out, g4, ht, B6 _ B5⟩
  | false =>
    rw [cont_no hraw hsoft]
    have HR := Lib.hid hraw; have HS := Lib.hid hsoft; have HG := Lib.hid h; have HT := Lib.hid hT; clear hraw h hT hsoft
    go_enter Tryd.func30, Tryd.ntmps30
    go_wp2_with fail
    refine (raw1 nm w false HR.out).mono ?_
    rintro e w0 ⟨rfl, hb0⟩
    go_wp2_with fail
    refine (soft1 nm w0 false HS.out).mono ?_
    rintro e w1 ⟨rfl, hb1⟩
    obtain ⟨g1, B1⟩ := HG.out.below (bt hb0 hb1)
    go_wp2
    go_end0
    exact ⟨rfl, k, l, hk, rfl, g1, (List.append_nil _).symm, B1⟩

theorem start_no {l : List UInt8} (h : attrs false [] (from_ en l) = none) : startTag l = ([], []) ∧ endTag l = ([], []) := by
  unfold startTag endTag
  rw [h]
  exact ⟨rfl, rfl⟩
theorem start_yes {l r : List UInt8} {bs : List At} {sf : Bool} (h : attrs false [] (from_ en l) = some (bs, sf, r)) :
    startTag l = (⟨1, B (lowL (upTo en l)), B [], bs, sf⟩ :: (cont (lowL (upTo en l)) r).1, (cont (lowL (upTo en l)) r).2) ∧ endTag l = ([⟨2, B (lowL (upTo en l)), B [], [], false⟩], r) := by
  unfold startTag endTag
  rw [h]
  exact ⟨rfl, rfl⟩
theorem Aw.fr {N : Nat} {w : World} {A : Option Addr} {c : Nat} {l : List At} (h : Aw N w (.slice A l.length c) l) (k : Int) (n d : ByteArray) (sf : Bool) : Fr N w ⟨⟨k, n, d, l, sf⟩, A, c⟩ := h

end Go.Proofs.YtjhhhlomkfnniaaDoor.To
