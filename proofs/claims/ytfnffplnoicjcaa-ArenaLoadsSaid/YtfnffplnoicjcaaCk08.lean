/-
  Stage 11: the program's Attr, Drop.
  Stage 11: the program's Copy.
  Stage 11: the program's Copy, walked.
  Stage 11: a call of a script in memory; the laws' tells, for one kind of call.
  Stage 11: the laws' tells: Make, Clone, Load, and what is no call.
  Stage 11: the laws' tells: Make, Clone, Load, and what is no call.
  Stage 11: the program's document alone, among the blocks that are new since a world.
  Stage 11: calls whose answers the document fixes.
  Stage 11: the laws' fixed, walked.
  Stage 11: a script in memory; a document on which it was played.
  Stage 11: the program's document with its blocks named; rows of one's own are kept.
  Stage 11, in plain words: a copy of a node's tree.
-/
import Derived.Test.YtfnffplnoicjcaaCk07
import Derived.Test.YtfnffplnoicjcaaCk05
namespace Go.Proofs.Ytfnffplnoicjcaa.Ar
set_option maxRecDepth 100000
set_option linter.unusedSimpArgs false
set_option linter.unusedVariables false
open Go.RowKit Ba
open Ro (At Ro Cw ros Rr Ow Nw Fr Att Ap Sh Ra Rv Held cells acells len_acells acells_one app_num app_row below_new infoI info_row info_attr len_cells rowV rowO Few right twice okRow)
open To (Aw)
open Na (mayB)
theorem twice_cons {a : At} {r : List At} (h : twice (a :: r) = false) : (∀ b ∈ r, b.name ≠ a.name) ∧ twice r = false := by
  rw [twice, Bool.or_eq_false_iff] at h
  refine ⟨fun b hb e => ?_, h.2⟩
  have h1 := h.1
  rw [List.any_eq_false] at h1
  exact h1 b hb (decide_eq_true e)
theorem map_none {nm v : ByteArray} : ∀ {l : List At}, (∀ a ∈ l, a.name ≠ nm) → l.map (atF nm v) = l
  | [], _ => rfl
  | a :: r, h => by
    rw [List.map_cons, map_none fun b hb => h b (List.mem_cons_of_mem _ hb)]
    unfold atF
    rw [if_neg (h a List.mem_cons_self)]
theorem map_once {nm v : ByteArray} : ∀ (l : List At) (j : Nat) (h : j < l.length), twice l = false → l[j].name = nm → l.map (atF nm v) = l.set j ⟨nm, v⟩
  | [], _, h, _, _ => absurd h (Nat.not_lt_zero _)
  | a :: r, 0, _, ht, hn => by
    obtain ⟨h1, h2⟩ := twice_cons ht
    have hn : a.name = nm := hn
    rw [List.map_cons, List.set_cons_zero, map_none fun b hb => by rw [← hn]; exact h1 b hb]
    unfold atF
    rw [if_pos hn, hn]
  | a :: r, j + 1, h, ht, hn => by
    obtain ⟨h1, h2⟩ := twice_cons ht
    have hn : r[j]'(by simpa using h) = r[j]'(by simpa using h) := rfl
    rename_i hn0
    have hn' : (r[j]'(by simpa using h)).name = nm := hn0
    rw [List.map_cons, List.set_cons_succ, map_once r j (by simpa using h) h2 hn']
    unfold atF
    rw [if_neg]
    intro e
    exact h1 _ (List.getElem_mem _) (hn'.trans e.symm)
theorem drop_none {nm : ByteArray} {l : List At} (h : ∀ a ∈ l, a.name ≠ nm) : dropL l nm = l := by
  unfold dropL
  rw [List.filter_eq_self]
  intro a ha
  rw [decide_eq_false (h a ha)]
  rfl
theorem drop_once {nm : ByteArray} : ∀ (l : List At) (j : Nat) (h : j < l.length), twice l = false → l[j].name = nm → dropL l nm = l.eraseIdx j
  | [], _, h, _, _ => absurd h (Nat.not_lt_zero _)
  | a :: r, 0, _, ht, hn => by
    obtain ⟨h1, h2⟩ := twice_cons ht
    have hn : a.name = nm := hn
    have h3 := drop_none (nm := nm) (l := r) fun b hb => by rw [← hn]; exact h1 b hb
    unfold dropL at h3 ⊢
    rw [List.filter_cons_of_neg (by simp [hn]), h3, List.eraseIdx_cons_zero]
  | a :: r, j + 1, h, ht, hn => by
    obtain ⟨h1, h2⟩ := twice_cons ht
    have hn' : (r[j]'(by simpa using h)).name = nm := hn
    have h3 := drop_once r j (by simpa using h) h2 hn'
    have hne : ¬ a.name = nm := fun e => h1 _ (List.getElem_mem _) (hn'.trans e.symm)
    unfold dropL at h3 ⊢
    rw [List.filter_cons_of_pos (by simp [hne]), h3, List.eraseIdx_cons_succ]
theorem put_mem {nm : ByteArray} {l : List At} : putB l nm = true ↔ ∃ a ∈ l, a.name = nm := by
  unfold putB
  rw [List.any_eq_true]
  constructor
  · rintro ⟨a, h1, h2⟩
    exact ⟨a, h1, of_decide_eq_true h2⟩
  · rintro ⟨a, h1, h2⟩
    exact ⟨a, h1, decide_eq_true h2⟩
theorem set_none {nm v : ByteArray} {l : List At} (h : ∀ a ∈ l, a.name ≠ nm) : atSet l nm v = l ++ [(⟨nm, v⟩ : At)] := by
  unfold atSet
  rw [if_neg, map_none h]
  rw [put_mem]
  rintro ⟨a, h1, h2⟩
  exact h a h1 h2
theorem set_once {nm v : ByteArray} {l : List At} {j : Nat} (h : j < l.length) (ht : twice l = false) (hn : l[j].name = nm) : atSet l nm v = l.set j ⟨nm, v⟩ := by
  unfold atSet
  rw [if_pos (put_mem.2 ⟨_, List.getElem_mem h, hn⟩), map_once l j h ht hn]
theorem good_once {M : List Nd} (G : Good M) {k : Nat} (h0 : k ≠ 0) (hk : k < M.length) : twice (nd M k).ro.attrs = false := by
  have h := G.row k h0 hk
  unfold okRow at h
  split at h
  · rw [Bool.and_eq_true] at h
    simpa using h.2
  · rw [Bool.and_eq_true] at h
    have h2 : (nd M k).ro.attrs.length = 0 := by
      have := h.2
      simp at this
      simp [this]
    rw [List.eq_nil_of_length_eq_zero h2]
    rfl
theorem flat_setA {nm v : ByteArray} : ∀ (l : List At) (j : Nat) (h : j < l.length), l[j].name = nm → (l.flatMap acells).set (j * 2 + 1) (.string v) = (l.set j ⟨nm, v⟩).flatMap acells
  | [], _, h, _ => absurd h (Nat.not_lt_zero _)
  | a :: r, 0, _, hn => by
    have hn : a.name = nm := hn
    rw [List.set_cons_zero, List.flatMap_cons, List.flatMap_cons, ← hn]
    rfl
  | a :: r, j + 1, h, hn => by
    have hn' : (r[j]'(by simpa using h)).name = nm := hn
    rw [List.set_cons_succ, List.flatMap_cons, List.flatMap_cons, List.set_append_right _ _ (by rw [len_acells]; omega), len_acells, show (j + 1) * 2 + 1 - 2 = j * 2 + 1 from by omega, flat_setA r j (by simpa using h) hn']
theorem flat_same {e e' : Ew} : ∀ (l : List Ew) (k : Nat), l[k]? = some e → ecells e' = ecells e → (l.set k e').flatMap ecells = l.flatMap ecells
  | [], k, h, _ => by simp at h
  | a :: r, 0, h, he => by
    have h : a = e := by simpa using h
    rw [List.set_cons_zero, List.flatMap_cons, List.flatMap_cons, he, h]
  | a :: r, k + 1, h, he => by
    have h : r[k]? = some e := by simpa using h
    rw [List.set_cons_succ, List.flatMap_cons, List.flatMap_cons, flat_same r k h he]
set_option maxRecDepth 100000 in
set_option maxHeartbeats 8000000 in
theorem attrP1 {p N : Nat} {F : Nat → Prop} {M : List Nd} (n : Int) (nm v : ByteArray) (w : World) (D : Doc12 w N F p M) (G : Good M) (hf : Few (M.map Nd.ro)) (hs : nm.size ≤ 140737488355328) :
    Calls Try.prog 25 #[.pointer (some ⟨p, 0, none⟩), .int .i64 n, .string nm, .string v] w fun e w' => e = .returned (.int .i64 (attrE11 M n nm)) ∧ ∃ F', Doc12 w' N F' p (attrM11 M n nm v) ∧ Next w w' F F' := by
  have HD0 := Lib.hid D
  obtain ⟨gE, cE, lE, D⟩ := D
  have HEL := Lib.hid (element1 n w D _ rfl)
  have hmay := Na.attr_any nm w hs
  obtain ⟨q, hq⟩ : ∃ q, mayB nm true = q := ⟨_, rfl⟩
  have hq' : Nm.attrB nm = q := hq
  rw [hq'] at hmay
  have HM := Lib.hid hmay
  clear hmay hq'
  unfold attrE11 attrM11
  rw [hq]
  cases he : elB11 M n with
  | false =>
    rw [he] at HEL
    clear he hq D
    go_enter Try.func25, Try.ntmps25
    go_wp2_with fail
    refine HEL.out.mono ?_
    rintro e w1 ⟨rfl, rfl⟩
    go_wp2
    go_ret
    exact ⟨rfl, F, HD0.out, Next.refl _ F⟩
  | true =>
  cases q with
  | false =>
    rw [he] at HEL
    clear he hq D
    go_enter Try.func25, Try.ntmps25
    go_wp2_with fail
    refine HEL.out.mono ?_
    rintro e w1 ⟨rfl, rfl⟩
    go_wp2_with fail
    refine HM.out.mono ?_
    rintro e w1 ⟨rfl, rfl⟩
    go_wp2
    go_ret
    exact ⟨rfl, F, HD0.out, Next.refl _ F⟩
  | true =>
    rw [he] at HEL
    obtain ⟨k, rfl, hk, hk0, _⟩ := el_nat he
    have HAA := Lib.hid (attrAtP1 k nm w D hk hf)
    have hx := D.x
    have hcap := D.obj.2.2.1
    have hki : (k : Int) < M.length := by omega
    have hgl := D.obj.2.1
    obtain ⟨e, hek, hem, hen, hc⟩ := D.at_ hk
    have c4 := hc 4 _ rfl
    have hla : e.x.ro.attrs = (nd M k).ro.attrs := by rw [← hen]; rfl
    have hll : (nd M k).ro.attrs.length ≤ 1000000 := by
      rw [nd_at hk]
      exact hf _ (List.mem_map.2 ⟨_, List.getElem_mem hk, rfl⟩)
    have HTW := Lib.hid (good_once G hk0 hk)
    have HD := Lib.hid D; have HE := Lib.hid hek; have HEN := Lib.hid hen; have HLA := Lib.hid hla
    have hoa := (D.attrs e hem).1
    have hok := (D.kids e hem).1
    have HOA := Lib.hid hoa; have HOK := Lib.hid hok
    have f4 := D.frz (k * 7 + 4)
    rw [Int.toNat_natCast]
    clear D he hq hek hem hen hc hoa hok hf
    go_enter Try.func25, Try.ntmps25
    go_wp2_with fail
    refine HEL.out.mono ?_
    rintro e1 w1 ⟨rfl, rfl⟩
    go_wp2_with fail
    refine HM.out.mono ?_
    rintro e1 w1' ⟨rfl, rfl⟩
    go_wp2_with fail
    refine HAA.out.mono ?_
    rintro e1 w2 ⟨q, rfl, hans, hb⟩
    have D2 := HD.out.below hb
    have k4 := (hb.cell (p := ⟨gE, k * 7 + 4, none⟩) hgl).trans c4
    have g4 := (hb.frozen (p := ⟨gE, k * 7 + 4, none⟩) hgl).trans f4
    have hoa2 : OA w2 N e.x := HOA.out.block fun g hg => hb.block g (oa_obj HOA.out hg).2.2.1
    have hok2 : OK w2 N e.K e.kc e.kids := HOK.out.block fun g hg => hb.block g (ok_obj HOK.out hg).2.2.1
    have HB := Lib.hid hb; have HD2 := Lib.hid D2; have HOA2 := Lib.hid hoa2; have HOK2 := Lib.hid hok2
    rcases hans with ⟨rfl, hno⟩ | ⟨j, rfl, hj, hjn, hfi⟩
    · rw [← hla] at hno hll
      have HSET := Lib.hid (set_none (v := v) hno)
      obtain ⟨i0, hi, hz0, hz1, hz2⟩ := info_parts info_attr
      have HA2 := Lib.hid (show Of (w2.alloc (.cells #[.string nm, .string v] 62)) N 62 2 e.x.A e.x.ro.attrs.length e.x.c (e.x.ro.attrs.flatMap acells) from hoa2.1.block fun g hA => (below_new w2 _).block g (oa_obj hoa2 (by rw [hA]; rfl)).2.2.1)
      have HK := Lib.hid (show ∀ w', Touch (fun b => blkOf e.x.A = some b) w2 w' → w'.cell? ⟨gE, k * 7 + 4, none⟩ = w2.cell? ⟨gE, k * 7 + 4, none⟩ ∧ w'.frozen? ⟨gE, k * 7 + 4, none⟩ = w2.frozen? ⟨gE, k * 7 + 4, none⟩ from fun w' t => touch_cell t D2.obj.2.1 (fun hbb => by
        obtain ⟨_, _, _, _, _, hh⟩ := oa_obj hoa2 hbb
        obtain ⟨_, _, _, _, _, _, hoE⟩ := D2.obj
        exact type_ne hh hoE (by decide) rfl) _)
      have hNs := D2.hN
      have HN := Lib.hid (show N ≤ (w2.alloc (.cells #[.string nm, .string v] 62)).heap.size by simp; omega)
      have hnA : 0 < (1 : Nat) := by decide
      have HTB := Lib.hid (below_new w2 (.cells #[.string nm, .string v] 62))
      have HSH := Lib.hid hoa2.2
      have k4a := ((below_new w2 (.cells #[.string nm, .string v] 62)).cell (p := ⟨gE, k * 7 + 4, none⟩) D2.obj.2.1).trans k4
      clear hoa2 hok2 D2 hb hno c4 f4 HAA hla
      go_wp2_with (at_builtin; go_loud (refine app_any (w2.alloc (.cells #[.string nm, .string v] 62)) rfl (.tmp 45) (.tmp 49) 45 rfl 62 i0 _ 2 32 Try.underlying45 hi hz0 hz1 hz2 rfl (by decide) N e.x.A e.x.ro.attrs.length e.x.c (e.x.ro.attrs.flatMap acells) rfl HA2.out (some ⟨w2.heap.size, 0, none⟩) 1 1 [.string nm, .string v] rfl rfl (by simp) (block_cells (World.alloc_heap_new _ _)) (by simp [Value.oneCell']) (by unfold maxLen; omega) (by omega) HN.out ?_; intro A5 c5 w5 ho5 hr5 hg5 hb5 _; have ht5 : Touch (fun b => blkOf e.x.A = some b) w2 w5 := ((Touch.of_below HTB.out).trans (Touch.grown hg5 (fun b h => h)) (fun _ _ h => h)); have k5 := (HK.out w5 ht5).1.trans k4; have g5 := (HK.out w5 ht5).2.trans g4; have HO5 := Lib.hid ho5; have HT5 := Lib.hid ht5; have HB5 := Lib.hid hb5; clear ho5 hr5 hg5 hb5 ht5))
      go_ret
      have hl1 : (e.x.ro.attrs ++ [(⟨nm, v⟩ : At)]).length = e.x.ro.attrs.length + 1 := by simp
      obtain ⟨P6, N6⟩ := HD2.out.put (e' := ⟨⟨{ e.x.ro with attrs := e.x.ro.attrs ++ [(⟨nm, v⟩ : At)] }, A5, c5⟩, e.up, e.K, e.kc, e.kids⟩) HE.out (w' := w5) (HT5.out.mono fun b _ hb => .inl hb) (j := 4) (by decide) (.slice A5 (e.x.ro.attrs.length + 1) c5) (by rw [← hl1]; rfl) ⟨by
          show Of w5 N 62 2 A5 (e.x.ro.attrs ++ [(⟨nm, v⟩ : At)]).length c5 ((e.x.ro.attrs ++ [(⟨nm, v⟩ : At)]).flatMap acells)
          rw [hl1, List.flatMap_append]
          exact HO5.out, fun a ha => by
          rcases List.mem_append.1 ha with ha | ha
          · exact HSH.out a ha
          · rw [List.mem_singleton.1 ha]
            show nm.size ≤ maxLen
            unfold maxLen
            omega⟩ (HOK2.out.block fun g hg => HT5.out.block g (ok_obj HOK2.out hg).2.2.1 fun hb => by
          obtain ⟨_, _, _, _, _, hh⟩ := ok_obj HOK2.out hg
          obtain ⟨_, _, _, _, _, hh2⟩ := oa_obj HOA2.out hb
          exact type_ne hh hh2 (by decide) rfl) (fun g hg => (HB5.out g hg).imp id fun h => by simp at h; omega) (fun g hg => .inl hg)
      have hM := row_set hk (fun r => { r with attrs := atSet r.attrs nm v }) (y := nodeOf ⟨⟨{ e.x.ro with attrs := e.x.ro.attrs ++ [(⟨nm, v⟩ : At)] }, A5, c5⟩, e.up, e.K, e.kc, e.kids⟩) (by
        rw [← HEN.out, ← HSET.out]
        rfl)
      show _ ∧ ∃ F', Doc12 _ N F' p (rowM M k fun r => { r with attrs := atSet r.attrs nm v }) ∧ _
      rw [hM]
      exact ⟨rfl, _, ⟨_, _, _, P6⟩, (Next.of_below HB.out).trans N6⟩
    · obtain ⟨gA, hgA, _, _, _⟩ : ∃ gA, e.x.A = some ⟨gA, 0, none⟩ ∧ N ≤ gA ∧ gA < w2.heap.size ∧ ∃ c f, w2.heap[gA]? = some (.cells c 62 f) := by
        rcases hoa2.1.obj with ⟨_, h0, _⟩ | ⟨g, cur, hA, h1, h2, h3, _⟩
        · rw [hla] at h0
          omega
        · exact ⟨g, hA, h1, h2, _, _, h3⟩
      rw [hla] at k4
      obtain ⟨l, hl⟩ : ∃ l, (nd M k).ro.attrs = l := ⟨_, rfl⟩
      have hj' : j < l.length := by rw [← hl]; exact hj
      have hjn' : l[j].name = nm := by
        subst hl
        exact hjn
      rw [hl] at k4 hll HTW HLA hla
      have hcl := hoa2.1.cells hgA (j * 2 + 1) (.string l[j].value) (by
        rw [hla, Ro.flat_at acells 2 len_acells _ _ _ hj' (by decide)]
        rfl)
      obtain ⟨hc1, hf1⟩ := hcl
      rw [hgA] at k4
      have hst := hoa2.1.store hgA (j * 2 + 1) (.string v)
      rw [hla, flat_setA l j hj' hjn'] at hst
      have HST := Lib.hid hst
      have HSET := Lib.hid (set_once (v := v) hj' HTW.out hjn')
      have hji : (j : Int) < l.length := by omega
      have hjm : ¬ (j : Int) = -1 := by omega
      have hjb : ((j : Int) != -1) = true := by simp
      have HL := Lib.hid hl; have HSH := Lib.hid hoa2.2; have HJN := Lib.hid hjn'; have HGA := Lib.hid hgA
      have HOB := Lib.hid (show ∃ c f, w2.heap[gA]? = some (.cells c 62 f) from by assumption)
      have hlc := hoa2.1.cap.1
      have hcm := hoa2.1.cap.2
      clear hj hjn hfi hoa2 hok2 D2 hb hst hl c4 f4 HAA hla
      go_wp2
      go_ret
      obtain ⟨cA, fA, hoA⟩ := HOB.out
      obtain ⟨_, _, _, _, cE', fE', hoE⟩ := HD2.out.obj
      have hAE : gA ≠ gE := type_ne hoA hoE (by decide)
      have hset : ∀ b, b ≠ gA → (w2.setCell ⟨gA, j * 2 + 1, none⟩ (.string v)).heap[b]? = w2.heap[b]? := fun b hb => Below.heap_setCell _ _ _ _ hb
      have hec : ecells ⟨⟨{ e.x.ro with attrs := l.set j ⟨nm, v⟩ }, e.x.A, e.x.c⟩, e.up, e.K, e.kc, e.kids⟩ = ecells e := by
        unfold ecells
        simp only [List.length_set, HLA.out]
      obtain ⟨P6, N6⟩ := HD2.out.change (e' := ⟨⟨{ e.x.ro with attrs := l.set j ⟨nm, v⟩ }, e.x.A, e.x.c⟩, e.up, e.K, e.kc, e.kids⟩) HE.out (w' := w2.setCell ⟨gA, j * 2 + 1, none⟩ (.string v)) (Touch.set w2 ⟨gA, j * 2 + 1, none⟩ (.string v) (.inr (.inl (by unfold bA; rw [HGA.out]; rfl)))) (by
          rw [flat_same lE k HE.out hec]
          exact owns_block HD2.out.ents fun g hg => by
            obtain rfl : gE = g := Option.some.inj hg
            exact hset gE fun e => hAE e.symm) ⟨by
          show Of _ N 62 2 e.x.A (l.set j ⟨nm, v⟩).length e.x.c ((l.set j ⟨nm, v⟩).flatMap acells)
          rw [List.length_set]
          exact HST.out, fun a ha => by
          rcases List.mem_or_eq_of_mem_set ha with ha | ha
          · exact HSH.out a (by rw [HLA.out]; exact ha)
          · rw [ha]
            show nm.size ≤ maxLen
            unfold maxLen
            omega⟩ (HOK2.out.block fun g hg => hset g fun e2 => by
          obtain ⟨_, _, _, _, _, hh⟩ := ok_obj HOK2.out hg
          rw [e2] at hh
          exact type_ne hh hoA (by decide) rfl) (fun g hg => .inl hg) (fun g hg => .inl hg)
      have hM := row_set hk (fun r => { r with attrs := atSet r.attrs nm v }) (y := nodeOf ⟨⟨{ e.x.ro with attrs := l.set j ⟨nm, v⟩ }, e.x.A, e.x.c⟩, e.up, e.K, e.kc, e.kids⟩) (by
        rw [← HSET.out, ← HLA.out, ← HEN.out]
        rfl)
      show _ ∧ ∃ F', Doc12 _ N F' p (rowM M k fun r => { r with attrs := atSet r.attrs nm v }) ∧ _
      rw [hM]
      exact ⟨rfl, _, ⟨_, _, _, P6⟩, (Next.of_below HB.out).trans N6⟩
set_option maxRecDepth 100000 in
set_option maxHeartbeats 8000000 in
theorem dropP1 {p N : Nat} {F : Nat → Prop} {M : List Nd} (n : Int) (nm : ByteArray) (w : World) (D : Doc12 w N F p M) (G : Good M) (hf : Few (M.map Nd.ro)) :
    Calls Try.prog 26 #[.pointer (some ⟨p, 0, none⟩), .int .i64 n, .string nm] w fun e w' => e = .returned (.int .i64 (dropE11 M n nm)) ∧ ∃ F', Doc12 w' N F' p (dropM11 M n nm) ∧ Next w w' F F' := by
  have HD0 := Lib.hid D
  obtain ⟨gE, cE, lE, D⟩ := D
  have HEL := Lib.hid (element1 n w D _ rfl)
  unfold dropE11 dropM11
  cases he : elB11 M n with
  | false =>
    rw [he] at HEL
    clear he D
    go_enter Try.func26, Try.ntmps26
    go_wp2_with fail
    refine HEL.out.mono ?_
    rintro e w1 ⟨rfl, rfl⟩
    go_wp2
    go_ret
    exact ⟨rfl, F, HD0.out, Next.refl _ F⟩
  | true =>
    rw [he] at HEL
    obtain ⟨k, rfl, hk, hk0, _⟩ := el_nat he
    have HAA := Lib.hid (attrAtP1 k nm w D hk hf)
    have hx := D.x
    have hcap := D.obj.2.2.1
    have hki : (k : Int) < M.length := by omega
    have hgl := D.obj.2.1
    obtain ⟨e, hek, hem, hen, hc⟩ := D.at_ hk
    have c4 := hc 4 _ rfl
    have hla : e.x.ro.attrs = (nd M k).ro.attrs := by rw [← hen]; rfl
    have hll : (nd M k).ro.attrs.length ≤ 1000000 := by
      rw [nd_at hk]
      exact hf _ (List.mem_map.2 ⟨_, List.getElem_mem hk, rfl⟩)
    have HTW := Lib.hid (good_once G hk0 hk)
    have HD := Lib.hid D; have HE := Lib.hid hek; have HEN := Lib.hid hen
    have hoa := (D.attrs e hem).1
    have hok := (D.kids e hem).1
    have HOA := Lib.hid hoa; have HOK := Lib.hid hok
    have f4 := D.frz (k * 7 + 4)
    rw [Int.toNat_natCast]
    obtain ⟨l, hl⟩ : ∃ l, (nd M k).ro.attrs = l := ⟨_, rfl⟩
    rw [hl] at hla hll HTW HAA ⊢
    have HLA := Lib.hid hla; have HL := Lib.hid hl
    rw [hla] at c4
    clear D he hek hem hen hc hoa hok hf hla hl
    obtain ⟨qe, hqe⟩ : ∃ qe : Int, (if (dropL l nm).length = l.length then 1 else 0) = qe := ⟨_, rfl⟩
    obtain ⟨qm, hqm⟩ : ∃ qm : List Nd, (if true && !decide ((dropL l nm).length = l.length) then rowM M k fun r => { r with attrs := dropL r.attrs nm } else M) = qm := ⟨_, rfl⟩
    rw [if_pos rfl, hqe, hqm]
    have HQE := Lib.hid hqe; have HQM := Lib.hid hqm
    clear hqe hqm
    go_enter Try.func26, Try.ntmps26
    go_wp2_with fail
    refine HEL.out.mono ?_
    rintro e1 w1 ⟨rfl, rfl⟩
    go_wp2_with fail
    refine HAA.out.mono ?_
    rintro e1 w2 ⟨q, rfl, hans, hb⟩
    have D2 := HD.out.below hb
    have k4 := (hb.cell (p := ⟨gE, k * 7 + 4, none⟩) hgl).trans c4
    have g4 := (hb.frozen (p := ⟨gE, k * 7 + 4, none⟩) hgl).trans f4
    have hoa2 : OA w2 N e.x := HOA.out.block fun g hg => hb.block g (oa_obj HOA.out hg).2.2.1
    have hok2 : OK w2 N e.K e.kc e.kids := HOK.out.block fun g hg => hb.block g (ok_obj HOK.out hg).2.2.1
    have HB := Lib.hid hb; have HD2 := Lib.hid D2; have HOA2 := Lib.hid hoa2; have HOK2 := Lib.hid hok2
    rcases hans with ⟨rfl, hno⟩ | ⟨j, rfl, hj, hjn, hfi⟩
    · have e1 := HQE.out
      have e2 := HQM.out
      rw [drop_none hno, if_pos rfl] at e1
      rw [drop_none hno, decide_eq_true rfl, Bool.not_true, Bool.and_false, if_neg (by decide)] at e2
      subst e1 e2
      have HD3 := Lib.hid (HD0.out.below hb)
      clear hoa2 hok2 D2 hb hno c4 f4 HAA k4 g4 HQE HQM
      go_wp2
      go_ret
      exact ⟨rfl, F, HD3.out, Next.of_below HB.out⟩
    · have hdr := drop_once l j hj HTW.out hjn
      have hne : ¬ (dropL l nm).length = l.length := by
        rw [hdr, List.length_eraseIdx_of_lt hj]
        omega
      have e1 := HQE.out
      have e2 := HQM.out
      rw [if_neg hne] at e1
      rw [decide_eq_false hne, Bool.not_false, Bool.and_true, if_pos rfl] at e2
      subst e1 e2
      have hof := hoa2.1
      rw [HLA.out] at hof
      have HWO := Lib.hid (withoutA1 j w2 hof hj (by omega) D2.hN)
      have HK := Lib.hid (show ∀ w', Touch (fun b => blkOf e.x.A = some b) w2 w' → w'.cell? ⟨gE, k * 7 + 4, none⟩ = w2.cell? ⟨gE, k * 7 + 4, none⟩ ∧ w'.frozen? ⟨gE, k * 7 + 4, none⟩ = w2.frozen? ⟨gE, k * 7 + 4, none⟩ from fun w' t => touch_cell t D2.obj.2.1 (fun hbb => by
        obtain ⟨_, _, _, _, _, hh⟩ := oa_obj hoa2 hbb
        obtain ⟨_, _, _, _, _, _, hoE⟩ := D2.obj
        exact type_ne hh hoE (by decide) rfl) _)
      have HDR := Lib.hid hdr; have HSH := Lib.hid hoa2.2; have HJ := Lib.hid hj
      have hjm : ¬ (j : Int) = -1 := by omega
      have hjb : ((j : Int) == -1) = false := by simp
      clear hoa2 hok2 D2 hb c4 f4 HAA HQE HQM hof hdr hne hfi hjn
      go_wp2_with fail
      refine HWO.out.mono ?_
      rintro e5 w5 ⟨A5, c5, rfl, ho5, ht5, hb5⟩
      have k5 := (HK.out w5 ht5).1.trans k4
      have g5 := (HK.out w5 ht5).2.trans g4
      have HO5 := Lib.hid ho5; have HT5 := Lib.hid ht5; have HB5 := Lib.hid hb5
      clear ho5 ht5 hb5 k4 g4 HWO
      go_wp2
      go_ret
      have hl1 : (l.eraseIdx j).length = l.length - 1 := List.length_eraseIdx_of_lt HJ.out
      obtain ⟨P6, N6⟩ := HD2.out.put (e' := ⟨⟨{ e.x.ro with attrs := l.eraseIdx j }, A5, c5⟩, e.up, e.K, e.kc, e.kids⟩) HE.out (w' := w5) (HT5.out.mono fun b _ hb => .inl hb) (j := 4) (by decide) (.slice A5 (l.length - 1) c5) (by rw [← hl1]; rfl) ⟨by
          show Of w5 N 62 2 A5 (l.eraseIdx j).length c5 ((l.eraseIdx j).flatMap acells)
          rw [hl1]
          exact HO5.out, fun a ha => HSH.out a (by rw [HLA.out]; exact List.mem_of_mem_eraseIdx ha)⟩ (HOK2.out.block fun g hg => HT5.out.block g (ok_obj HOK2.out hg).2.2.1 fun hb => by
          obtain ⟨_, _, _, _, _, hh⟩ := ok_obj HOK2.out hg
          obtain ⟨_, _, _, _, _, hh2⟩ := oa_obj HOA2.out hb
          exact type_ne hh hh2 (by decide) rfl) (fun g hg => HB5.out g hg) (fun g hg => .inl hg)
      have hM := row_set hk (fun r => { r with attrs := dropL r.attrs nm }) (y := nodeOf ⟨⟨{ e.x.ro with attrs := l.eraseIdx j }, A5, c5⟩, e.up, e.K, e.kc, e.kids⟩) (by
        rw [← HDR.out, ← HLA.out, ← HEN.out]
        rfl)
      rw [hM]
      exact ⟨rfl, _, ⟨_, _, _, P6⟩, (Next.of_below HB.out).trans N6⟩
end Go.Proofs.Ytfnffplnoicjcaa.Ar

namespace Go.Proofs.Ytfnffplnoicjcaa.Ar
set_option linter.unusedSimpArgs false
set_option linter.unusedVariables false
open Go.RowKit Ba
open Ro (At Ro Cw ros Rr Ow Nw Fr Att Ap Sh Ra cells acells len_acells acells_one app_num below_new infoI info_row info_attr len_cells rowV rowO Few)
open To (Aw)
/-- A copy under way: j entries have attributes and kids of their own. -/
structure Cp (w wr : World) (M : List Nd) (lE : List Ew) (gC cC p2 j : Nat) (l1 : List Ew) : Prop where
  box : wr.heap[p2]? = some (.cells #[.slice (some ⟨gC, 0, none⟩) M.length cC] 52)
  ents : wr.ownsRow w.heap.size 70 7 (.slice (some ⟨gC, 0, none⟩) M.length cC) M.length ((l1 ++ lE.drop j).flatMap ecells)
  len : l1.length = j
  own : ∀ e ∈ l1, OA wr w.heap.size e.x ∧ OK wr w.heap.size e.K e.kc e.kids
  apA : Apart bA l1
  apK : Apart bK l1
  same : l1.map nodeOf = (lE.take j).map nodeOf
  bel : Below w.heap.size w wr
  low : w.heap.size ≤ p2
section
variable {w wr : World} {M : List Nd} {lE : List Ew} {gC cC p2 j : Nat} {l1 : List Ew}
theorem Cp.obj (h : Cp w wr M lE gC cC p2 j l1) : w.heap.size ≤ gC ∧ gC < wr.heap.size ∧ M.length ≤ cC ∧ cC ≤ maxLen ∧ ∃ c f, wr.heap[gC]? = some (.cells c 70 f) := by
  rcases h.ents.2 with ⟨hv, _⟩ | ⟨g, cap, cur, hv, hg, hh, hn, hm, _⟩
  · cases hv
  · injection hv with h1 h2 h3
    injection h1 with h1
    injection h1 with h1
    subst h1 h3
    exact ⟨hg, (Array.getElem?_eq_some_iff.1 hh).1, hn, hm, _, _, hh⟩
theorem Cp.x (h : Cp w wr M lE gC cC p2 j l1) : wr.cell? ⟨p2, 0, none⟩ = some (.slice (some ⟨gC, 0, none⟩) M.length cC) := cell_of_row wr p2 0 _ _ _ h.box
theorem Cp.at_ (h : Cp w wr M lE gC cC p2 j l1) (hl : lE.length = M.length) {e0 : Ew} (he : lE[j]? = some e0) : ∀ i u, (ecells e0)[i]? = some u → wr.cell? ⟨gC, j * 7 + i, none⟩ = some u := fun i u hu => by
  have hi : i < 7 := (List.getElem?_eq_some_iff.1 hu).1
  have hj := (List.getElem?_eq_some_iff.1 he).1
  have h1 := h.len
  have hjl : j < (l1 ++ lE.drop j).length := by rw [List.length_append, List.length_drop]; omega
  have h2 : (l1 ++ lE.drop j)[j]'hjl = e0 := by
    rw [List.getElem_append_right (by omega), List.getElem_drop]
    rw [← (List.getElem?_eq_some_iff.1 he).2]
    congr 1
    omega
  have := World.ownsRow.cells h.ents (g := gC) rfl (j * 7 + i) u (by rw [Ro.flat_at ecells 7 len_ecells _ _ _ hjl hi, h2]; exact hu)
  rw [WideShapes.add_plain, Nat.zero_add] at this
  exact this
theorem apart_snoc {f : Ew → Option Nat} {l : List Ew} {L : Nat} (h : Apart f l) {e : Ew} (hl : ∀ a ∈ l, ∀ g, f a = some g → g < L) (he : ∀ g, f e = some g → L ≤ g) : Apart f (l ++ [e]) := by
  unfold Apart at h ⊢
  rw [List.pairwise_append]
  refine ⟨h, List.pairwise_singleton _ _, fun a ha b hb g hg hg2 => ?_⟩
  rw [List.mem_singleton] at hb
  subst hb
  have := hl a ha g hg
  have := he g hg2
  omega
theorem set_mid {l : List Ew} {e0 : Ew} (hlen : l1.length = j) (h0 : l[j]? = some e0) (e' : Ew) : (l1 ++ l.drop j).set j e' = l1 ++ e' :: l.drop (j + 1) := by
  have hj := (List.getElem?_eq_some_iff.1 h0).1
  rw [List.set_append_right _ _ (by omega), hlen, Nat.sub_self, List.drop_eq_getElem_cons hj, List.set_cons_zero]
/-- One entry more. -/
theorem Cp.step (h : Cp w wr M lE gC cC p2 j l1) (hl : lE.length = M.length) {e0 : Ew} (he : lE[j]? = some e0) {A4 K6 : Option Addr} {c4 c6 : Nat} {w1 w3 : World}
    (b1 : Below wr.heap.size wr w1) (ha : Aw wr.heap.size w1 (.slice A4 e0.x.ro.attrs.length c4) e0.x.ro.attrs)
    (b3 : Below (w1.setCell ⟨gC, j * 7 + 4, none⟩ (.slice A4 e0.x.ro.attrs.length c4)).heap.size (w1.setCell ⟨gC, j * 7 + 4, none⟩ (.slice A4 e0.x.ro.attrs.length c4)) w3)
    (hk : w3.ownsRow (w1.setCell ⟨gC, j * 7 + 4, none⟩ (.slice A4 e0.x.ro.attrs.length c4)).heap.size 3 1 (.slice K6 e0.kids.length c6) e0.kids.length (e0.kids.map nv)) :
    Cp w (w3.setCell ⟨gC, j * 7 + 6, none⟩ (.slice K6 e0.kids.length c6)) M lE gC cC p2 (j + 1) (l1 ++ [⟨⟨e0.x.ro, A4, c4⟩, e0.up, K6, c6, e0.kids⟩]) := by
  obtain ⟨hgw, hgl, _, _, cg, fg, hog⟩ := h.obj
  have hj := (List.getElem?_eq_some_iff.1 he).1
  have hp2l := (Array.getElem?_eq_some_iff.1 h.box).1
  have hpg : p2 ≠ gC := type_ne h.box hog (by decide)
  -- the first store
  have hs1 := b1.size
  have og1 := (b1.block gC hgl).trans hog
  have e1 := owns_block (w' := w1) h.ents fun g hg => by
    obtain rfl : gC = g := Option.some.inj hg
    exact b1.block gC hgl
  have e2 := (World.ownsRow.stored e1 (j * 7 + 4) (.slice A4 e0.x.ro.attrs.length c4)).1
  have hjl : j < (l1 ++ lE.drop j).length := by rw [List.length_append, List.length_drop, h.len]; omega
  have hat : (l1 ++ lE.drop j)[j]'hjl = e0 := by
    have h1 := h.len
    rw [List.getElem_append_right (by omega), List.getElem_drop, ← (List.getElem?_eq_some_iff.1 he).2]
    congr 1
    omega
  rw [flat_set7 (by decide) _ (l1 ++ lE.drop j) j ⟨⟨e0.x.ro, A4, c4⟩, e0.up, e0.K, e0.kc, e0.kids⟩ (fun _ => by rw [hat]; rfl) hjl, set_mid h.len he] at e2
  obtain ⟨w2, hw2⟩ : ∃ w2, w1.setCell ⟨gC, j * 7 + 4, none⟩ (.slice A4 e0.x.ro.attrs.length c4) = w2 := ⟨_, rfl⟩
  rw [hw2] at e2 b3 hk
  have hs2 : w2.heap.size = w1.heap.size := by rw [← hw2]; simp [World.setCell]
  have k2 : ∀ b, b ≠ gC → w2.heap[b]? = w1.heap[b]? := fun b hb => hw2 ▸ Below.heap_setCell _ _ _ _ hb
  have og2 : ∃ c f, w2.heap[gC]? = some (.cells c 70 f) := by
    rcases e2.2 with ⟨hv, _⟩ | ⟨g, cap, cur, hv, _, hh, _⟩
    · cases hv
    · injection hv with h1
      injection h1 with h1
      injection h1 with h1
      subst h1
      exact ⟨_, _, hh⟩
  obtain ⟨cg2, fg2, og2⟩ := og2
  -- the second store
  have hs3 := b3.size
  have hg2 : gC < w2.heap.size := by omega
  have e3 := owns_block (w' := w3) e2 fun g hg => by
    obtain rfl : gC = g := Option.some.inj hg
    exact b3.block gC hg2
  have og3 := (b3.block gC hg2).trans og2
  have e4 := (World.ownsRow.stored e3 (j * 7 + 6) (.slice K6 e0.kids.length c6)).1
  have hjl2 : j < (l1 ++ (⟨⟨e0.x.ro, A4, c4⟩, e0.up, e0.K, e0.kc, e0.kids⟩ : Ew) :: lE.drop (j + 1)).length := by rw [List.length_append, List.length_cons, h.len]; omega
  have hat2 : (l1 ++ (⟨⟨e0.x.ro, A4, c4⟩, e0.up, e0.K, e0.kc, e0.kids⟩ : Ew) :: lE.drop (j + 1))[j]'hjl2 = ⟨⟨e0.x.ro, A4, c4⟩, e0.up, e0.K, e0.kc, e0.kids⟩ := by
    have h1 := h.len
    subst h1
    simp
  rw [flat_set7 (by decide) _ _ j ⟨⟨e0.x.ro, A4, c4⟩, e0.up, K6, c6, e0.kids⟩ (fun _ => by rw [hat2]; rfl) hjl2] at e4
  have hset : (l1 ++ (⟨⟨e0.x.ro, A4, c4⟩, e0.up, e0.K, e0.kc, e0.kids⟩ : Ew) :: lE.drop (j + 1)).set j ⟨⟨e0.x.ro, A4, c4⟩, e0.up, K6, c6, e0.kids⟩ = (l1 ++ [⟨⟨e0.x.ro, A4, c4⟩, e0.up, K6, c6, e0.kids⟩]) ++ lE.drop (j + 1) := by
    have h1 := h.len
    rw [List.set_append_right _ _ (by omega), h1, Nat.sub_self, List.set_cons_zero]
    simp
  rw [hset] at e4
  obtain ⟨w4, hw4⟩ : ∃ w4, w3.setCell ⟨gC, j * 7 + 6, none⟩ (.slice K6 e0.kids.length c6) = w4 := ⟨_, rfl⟩
  rw [hw4] at e4 ⊢
  have k4 : ∀ b, b ≠ gC → w4.heap[b]? = w3.heap[b]? := fun b hb => hw4 ▸ Below.heap_setCell _ _ _ _ hb
  -- what is of another type, and was there, is as it was
  have keep : ∀ b, b < wr.heap.size → b ≠ gC → w4.heap[b]? = wr.heap[b]? := fun b hb hne =>
    (k4 b hne).trans ((b3.block b (by omega)).trans ((k2 b hne).trans (b1.block b hb)))
  have hoa : OA w4 w.heap.size ⟨e0.x.ro, A4, c4⟩ := by
    have h1 : OA w1 wr.heap.size ⟨e0.x.ro, A4, c4⟩ := ⟨.inl ha.1, ha.2⟩
    have h2 : OA w4 wr.heap.size ⟨e0.x.ro, A4, c4⟩ := h1.block fun g hg => by
      obtain ⟨_, hN, hlt, _, _, hh⟩ := oa_obj h1 hg
      have hne : g ≠ gC := type_ne hh og1 (by decide)
      exact (k4 g hne).trans ((b3.block g (by omega)).trans (k2 g hne))
    exact ⟨h2.1.mono h.bel.size, h2.2⟩
  have hok : OK w4 w.heap.size K6 c6 e0.kids := by
    have h1 : OK w3 w2.heap.size K6 c6 e0.kids := .inl hk
    have h2 : OK w4 w2.heap.size K6 c6 e0.kids := h1.block fun g hg => by
      obtain ⟨_, hN, hlt, _, _, hh⟩ := ok_obj h1 hg
      exact k4 g (type_ne hh og3 (by decide))
    exact Of.mono h2 (Nat.le_trans h.bel.size (by omega))
  have lowA : ∀ g, blkOf A4 = some g → wr.heap.size ≤ g := fun g hg => (oa_obj (w := w1) (N := wr.heap.size) (x := ⟨e0.x.ro, A4, c4⟩) ⟨.inl ha.1, ha.2⟩ hg).2.1
  have lowK : ∀ g, blkOf K6 = some g → wr.heap.size ≤ g := fun g hg => by
    have := (ok_obj (w := w3) (N := w2.heap.size) (A := K6) (c := c6) (l := e0.kids) (.inl hk) hg).2.1
    omega
  refine ⟨(keep p2 hp2l hpg).trans h.box, e4, by rw [List.length_append, h.len]; rfl, fun e he' => ?_, apart_snoc h.apA (fun a ha' g hg => (oa_obj (h.own a ha').1 hg).2.2.1) lowA, apart_snoc h.apK (fun a ha' g hg => (ok_obj (h.own a ha').2 hg).2.2.1) lowK, ?_, ?_, h.low⟩
  · rcases List.mem_append.1 he' with he' | he'
    · refine ⟨(h.own e he').1.block fun g hg => ?_, (h.own e he').2.block fun g hg => ?_⟩
      · obtain ⟨_, _, hlt, _, _, hh⟩ := oa_obj (h.own e he').1 hg
        exact keep g hlt (type_ne hh hog (by decide))
      · obtain ⟨_, _, hlt, _, _, hh⟩ := ok_obj (h.own e he').2 hg
        exact keep g hlt (type_ne hh hog (by decide))
    · rw [List.mem_singleton] at he'
      subst he'
      exact ⟨hoa, hok⟩
  · rw [List.map_append, h.same, List.take_add_one, he, List.map_append]
    rfl
  · have h1 : Below w.heap.size w w2 := by
      rw [← hw2]
      exact (bt h.bel b1).setCell (p := ⟨gC, j * 7 + 4, none⟩) hgw _
    rw [← hw4]
    exact (bt h1 b3).setCell (p := ⟨gC, j * 7 + 6, none⟩) hgw _
/-- The copy, done. -/
theorem Cp.done (h : Cp w wr M lE gC cC p2 M.length l1) (hs : lE.map nodeOf = M) : PD wr w.heap.size (fun b => w.heap.size ≤ b ∧ b < wr.heap.size) p2 M gC cC l1 := by
  have hl : lE.length = M.length := by rw [← hs, List.length_map]
  have he := h.ents
  rw [List.drop_eq_nil_of_le (by omega), List.append_nil] at he
  obtain ⟨hg1, hg2, _⟩ := h.obj
  refine ⟨h.box, he, fun e he' => ⟨(h.own e he').1, fun g hg => ?_⟩, fun e he' => ⟨(h.own e he').2, fun g hg => ?_⟩, h.apA, h.apK, by rw [h.same, List.take_of_length_le (by omega), hs], h.low, ⟨h.low, (Array.getElem?_eq_some_iff.1 h.box).1⟩, ⟨hg1, hg2⟩, fun b hb => hb.2⟩
  · obtain ⟨_, h1, h2, _⟩ := oa_obj (h.own e he').1 hg
    exact ⟨h1, h2⟩
  · obtain ⟨_, h1, h2, _⟩ := ok_obj (h.own e he').2 hg
    exact ⟨h1, h2⟩
end
end Go.Proofs.Ytfnffplnoicjcaa.Ar

namespace Go.Proofs.Ytfnffplnoicjcaa.Ar
set_option linter.unusedSimpArgs false
set_option linter.unusedVariables false
open Go.RowKit Ba
open Ro (At Ro Cw ros Rr Ow Nw Fr Att Ap Sh Ra cells acells len_acells acells_one app_num below_new infoI info_row info_attr len_cells rowV rowO Few)
open To (Aw)
end Go.Proofs.Ytfnffplnoicjcaa.Ar

namespace Go.Proofs.Ytfnffplnoicjcaa.Ar
set_option maxRecDepth 100000
set_option linter.unusedSimpArgs false
set_option linter.unusedVariables false
open Go.RowKit Ba
open Ro (At Ro Cw ros Rr Ow Nw Fr Att Ap Sh Ra Rv Held cells acells below_new infoI info_row len_cells rowV rowO Few check right)
abbrev opV (o : Op11) : Value := .agg #[.int .i64 o.kind, .int .i64 o.node, .int .i64 o.other, .int .i64 o.at_, .int .i64 o.what, .string o.name, .string o.value, .slice o.A o.x.length o.c]
abbrev opO (o : Op11) : Obj := .cells #[.int .i64 o.kind, .int .i64 o.node, .int .i64 o.other, .int .i64 o.at_, .int .i64 o.what, .string o.name, .string o.value, .slice o.A o.x.length o.c] 44
/-- A call that can be read, its rows below block K. -/
structure OpOk (w : World) (K : Nat) (o : Op11) : Prop where
  cap : o.x.length ≤ o.c ∧ o.c ≤ maxLen
  rows : Rr w K o.A o.x
  held : Held (ros o.x)
  name : o.name.size ≤ 140737488355328
  what : -9223372036854775808 ≤ o.what ∧ o.what ≤ 9223372036854775807
def FU (F1 F2 : Nat → Prop) (b : Nat) : Prop := F1 b ∨ F2 b
section
variable {w w0 w1 w2 : World} {N p1 p2 : Nat} {F1 F2 F1' F2' : Nat → Prop} {M M2 M' M2' : List Nd}
theorem doc_mid (D1 : Doc12 w0 N F1 p1 M) (D2 : Doc11 w0 N F2 p2 M2) (hd : ∀ b, F1 b → ¬ F2 b) (n1 : Next w0 w1 F1 F1') : Doc11 w1 N F2 p2 M2 ∧ ∀ b, F1' b → ¬ F2 b := by
  refine ⟨?_, fun b hb hf => ?_⟩
  · obtain ⟨rk, gX, cX, gU, cU, gR, cR, lX, D⟩ := D2
    exact ⟨rk, gX, cX, gU, cU, gR, cR, lX, D.touch n1.1 fun b hf h1 => hd b h1 hf⟩
  · rcases n1.2.2 b hb with h | h
    · exact hd b h hf
    · have := D2.bd b hf
      omega
theorem doc_end (hb : Below w.heap.size w w0) (D2 : Doc11 w1 N F2 p2 M2) (n1 : Next w0 w1 F1 F1') (hd : ∀ b, F1' b → ¬ F2 b) (E1 : Doc12 w1 N F1' p1 M') (n2 : Next w1 w2 F2 F2') : Doc12 w2 N F1' p1 M' ∧ (∀ b, F1' b → ¬ F2' b) ∧ Next w w2 (FU F1 F2) (FU F1' F2') := by
  have hs1 := n1.1.size
  have hs2 := n2.1.size
  have hs0 := hb.size
  refine ⟨E1.touch n2.1 hd, fun b hb1 hf => ?_, ⟨⟨n2.1.os.trans (n1.1.os.trans hb.os), n2.1.tape.trans (n1.1.tape.trans hb.tape), n2.1.output.trans (n1.1.output.trans hb.output), by omega, fun b hlt hn => ?_⟩, fun b h => ?_, fun b h => ?_⟩⟩
  · rcases n2.2.2 b hf with h | h
    · exact hd b hb1 h
    · have := E1.bd b hb1
      omega
  · exact (n2.1.block b (by omega) fun h => hn (.inr h)).trans ((n1.1.block b (by omega) fun h => hn (.inl h)).trans (hb.block b hlt))
  · exact h.elim (fun h => .inl (n1.2.1 b h)) (fun h => .inr (n2.2.1 b h))
  · rcases h with h | h
    · rcases n1.2.2 b h with h | h
      · exact .inl (.inl h)
      · exact .inr (by omega)
    · rcases n2.2.2 b h with h | h
      · exact .inl (.inr h)
      · exact .inr (by omega)
end
def TellsSays (N p1 p2 : Nat) (F1 F2 : Nat → Prop) (M M2 : List Nd) (o : Op11) (w : World) : Prop :=
  Calls Try.prog 15 #[.pointer (some ⟨p1, 0, none⟩), .pointer (some ⟨p2, 0, none⟩), opV o] w fun e w' => ∃ b, e = .returned (.bool b) ∧ (M = M2 → b = true) ∧ ∃ F1' F2', Doc12 w' N F1' p1 (opM M o) ∧ Doc11 w' N F2' p2 (opM M2 o) ∧ (∀ b, F1' b → ¬ F2' b) ∧ Next w w' (FU F1 F2) (FU F1' F2')
/-- Two documents, apart. -/
structure Two (w : World) (N K p1 p2 : Nat) (F1 F2 : Nat → Prop) (B : Nat) (M M2 : List Nd) : Prop where
  d1 : Doc12 w N F1 p1 M
  d2 : Doc11 w N F2 p2 M2
  apart : ∀ b, F1 b → ¬ F2 b
  low1 : ∀ b, F1 b → K ≤ b
  low2 : ∀ b, F2 b → K ≤ b
  i1 : Inv B M
  i2 : Inv B M2
  l1 : M.length ≤ 1000
  l2 : M2.length ≤ 1000
  few : B ≤ 1000000
  hK : K ≤ w.heap.size
section
variable {w : World} {N K p1 p2 B : Nat} {F1 F2 : Nat → Prop} {M M2 : List Nd} {o : Op11}
theorem op_cells {w' : World} {h : Nat} (hb : w'.heap[h]? = some (opO o)) : w'.cell? ⟨h, 0, none⟩ = some (.int .i64 o.kind) ∧ w'.cell? ⟨h, 1, none⟩ = some (.int .i64 o.node) ∧ w'.cell? ⟨h, 2, none⟩ = some (.int .i64 o.other) ∧ w'.cell? ⟨h, 3, none⟩ = some (.int .i64 o.at_) ∧ w'.cell? ⟨h, 4, none⟩ = some (.int .i64 o.what) ∧ w'.cell? ⟨h, 5, none⟩ = some (.string o.name) ∧ w'.cell? ⟨h, 6, none⟩ = some (.string o.value) ∧ w'.cell? ⟨h, 7, none⟩ = some (.slice o.A o.x.length o.c) :=
  ⟨cell_of_row w' h 0 _ _ _ hb, cell_of_row w' h 1 _ _ _ hb, cell_of_row w' h 2 _ _ _ hb, cell_of_row w' h 3 _ _ _ hb, cell_of_row w' h 4 _ _ _ hb, cell_of_row w' h 5 _ _ _ hb, cell_of_row w' h 6 _ _ _ hb, cell_of_row w' h 7 _ _ _ hb⟩
set_option maxRecDepth 100000 in
set_option maxHeartbeats 4000000 in
theorem tells_ins (T : Two w N K p1 p2 F1 F2 B M M2) (O : OpOk w K o) (hk : o.kind = 2) : TellsSays N p1 p2 F1 F2 M M2 o w := by
  have e1 : ∀ L, opM L o = insM L o.node o.at_ o.other := fun L => by unfold opM; simp [hk]
  have hb0 := below_new w (opO o)
  have hbx := heap_alloc_new w (opO o)
  have hsz : w.heap.size < (w.alloc (opO o)).heap.size := by simp
  obtain ⟨w0, hw0⟩ : ∃ w0, w.alloc (opO o) = w0 := ⟨_, rfl⟩
  rw [hw0] at hb0 hbx hsz
  obtain ⟨c0, c1, c2, c3, c4, c5, c6, c7⟩ := op_cells hbx
  rw [hk] at c0
  have hnm := O.name
  have D1 := T.d1.below hb0
  have D2 := T.d2.below hb0
  have HP := Lib.hid (insertP1 o.node o.at_ o.other _ D1 T.i1.wf (by have := T.l1; omega))
  have HR := Lib.hid (fun (w1 : World) (F1' : Nat → Prop) (n1 : Next w0 w1 F1 F1') => refInsert1 o.node o.at_ o.other w1 (doc_mid D1 D2 T.apart n1).1 T.i2.wf (by have := T.l2; omega))
  have HX := Lib.hid (fun (w1 : World) (F1' : Nat → Prop) (n1 : Next w0 w1 F1 F1') => op_cells ((nx_block n1 (b := w.heap.size) hsz (fun h => Nat.lt_irrefl _ (T.d1.bd _ h))).1.trans hbx))
  have HT := Lib.hid T; have HD1 := Lib.hid D1; have HD2 := Lib.hid D2; have HB0 := Lib.hid hb0; have HE := Lib.hid e1
  have HW0 := Lib.hid hw0; have HKN := Lib.hid hk
  clear D1 D2 hb0 hbx e1 hw0 hk
  unfold TellsSays
  go_enter Try.func15, Try.ntmps15
  go_upto_region 1 with (fail)
  rw [HW0.out]
  go_wp2_with fail
  refine HP.out.mono ?_
  rintro e w1 ⟨rfl, F1', E1, N1⟩
  obtain ⟨_, d1, d2, d3, d4, d5, d6, d7⟩ := HX.out w1 F1' N1
  have HRR := Lib.hid (HR.out w1 F1' N1)
  obtain ⟨E2, hap⟩ := doc_mid HD1.out HD2.out HT.out.apart N1
  have HE1 := Lib.hid E1; have HN1 := Lib.hid N1; have HE2 := Lib.hid E2; have HAP := Lib.hid hap
  clear E1 N1 E2 hap c0 c1 c2 c3 c4 c5 c6 c7
  go_wp2_with fail
  refine HRR.out.mono ?_
  rintro e w2 ⟨rfl, F2', G2, N2⟩
  obtain ⟨G1, hap2, N12⟩ := doc_end HB0.out HE2.out HN1.out HAP.out HE1.out N2
  have HG1 := Lib.hid G1; have HG2 := Lib.hid G2; have HA2 := Lib.hid hap2; have HN12 := Lib.hid N12
  clear G1 G2 hap2 N12 N2
  go_wp2
  go_ret
  exact ⟨_, rfl, fun h => by subst h; simp, F1', F2', by rw [HE.out]; exact HG1.out, by rw [HE.out]; exact HG2.out, HA2.out, HN12.out⟩
set_option maxRecDepth 100000 in
set_option maxHeartbeats 4000000 in
theorem tells_rem (T : Two w N K p1 p2 F1 F2 B M M2) (O : OpOk w K o) (hk : o.kind = 3) : TellsSays N p1 p2 F1 F2 M M2 o w := by
  have e1 : ∀ L, opM L o = remM L o.node := fun L => by unfold opM; simp [hk]
  have hb0 := below_new w (opO o)
  have hbx := heap_alloc_new w (opO o)
  have hsz : w.heap.size < (w.alloc (opO o)).heap.size := by simp
  obtain ⟨w0, hw0⟩ : ∃ w0, w.alloc (opO o) = w0 := ⟨_, rfl⟩
  rw [hw0] at hb0 hbx hsz
  obtain ⟨c0, c1, c2, c3, c4, c5, c6, c7⟩ := op_cells hbx
  rw [hk] at c0
  obtain ⟨qa, hqa⟩ : ∃ qa : Int, (if 1 ≤ o.node ∧ o.node < M.length then (0 : Int) else 110) = qa := ⟨_, rfl⟩
  obtain ⟨qb, hqb⟩ : ∃ qb : Int, (if 1 ≤ o.node ∧ o.node < M2.length then (0 : Int) else 110) = qb := ⟨_, rfl⟩
  have HQA := Lib.hid hqa; have HQB := Lib.hid hqb
  have hnm := O.name
  have D1 := T.d1.below hb0
  have D2 := T.d2.below hb0
  have HP := Lib.hid (removeP1 o.node _ D1 T.i1.wf (by have := T.l1; omega) qa hqa)
  have HR := Lib.hid (fun (w1 : World) (F1' : Nat → Prop) (n1 : Next w0 w1 F1 F1') => refRemove1 o.node w1 (doc_mid D1 D2 T.apart n1).1 T.i2.wf (by have := T.l2; omega) qb hqb)
  have HX := Lib.hid (fun (w1 : World) (F1' : Nat → Prop) (n1 : Next w0 w1 F1 F1') => op_cells ((nx_block n1 (b := w.heap.size) hsz (fun h => Nat.lt_irrefl _ (T.d1.bd _ h))).1.trans hbx))
  have HT := Lib.hid T; have HD1 := Lib.hid D1; have HD2 := Lib.hid D2; have HB0 := Lib.hid hb0; have HE := Lib.hid e1
  have HW0 := Lib.hid hw0; have HKN := Lib.hid hk
  clear D1 D2 hb0 hbx e1 hw0 hk hqa hqb
  unfold TellsSays
  go_enter Try.func15, Try.ntmps15
  go_upto_region 1 with (fail)
  rw [HW0.out]
  go_wp2_with fail
  refine HP.out.mono ?_
  rintro e w1 ⟨rfl, F1', E1, N1⟩
  obtain ⟨_, d1, d2, d3, d4, d5, d6, d7⟩ := HX.out w1 F1' N1
  have HRR := Lib.hid (HR.out w1 F1' N1)
  obtain ⟨E2, hap⟩ := doc_mid HD1.out HD2.out HT.out.apart N1
  have HE1 := Lib.hid E1; have HN1 := Lib.hid N1; have HE2 := Lib.hid E2; have HAP := Lib.hid hap
  clear E1 N1 E2 hap c0 c1 c2 c3 c4 c5 c6 c7
  go_wp2_with fail
  refine HRR.out.mono ?_
  rintro e w2 ⟨rfl, F2', G2, N2⟩
  obtain ⟨G1, hap2, N12⟩ := doc_end HB0.out HE2.out HN1.out HAP.out HE1.out N2
  have HG1 := Lib.hid G1; have HG2 := Lib.hid G2; have HA2 := Lib.hid hap2; have HN12 := Lib.hid N12
  clear G1 G2 hap2 N12 N2
  go_wp2
  go_ret
  exact ⟨_, rfl, fun h => by subst h; (rw [← HQA.out, ← HQB.out]; simp), F1', F2', by rw [HE.out]; exact HG1.out, by rw [HE.out]; exact HG2.out, HA2.out, HN12.out⟩
set_option maxRecDepth 100000 in
set_option maxHeartbeats 4000000 in
theorem tells_attr (T : Two w N K p1 p2 F1 F2 B M M2) (O : OpOk w K o) (hk : o.kind = 5) : TellsSays N p1 p2 F1 F2 M M2 o w := by
  have e1 : ∀ L, opM L o = attrM11 L o.node o.name o.value := fun L => by unfold opM; simp [hk]
  have hb0 := below_new w (opO o)
  have hbx := heap_alloc_new w (opO o)
  have hsz : w.heap.size < (w.alloc (opO o)).heap.size := by simp
  obtain ⟨w0, hw0⟩ : ∃ w0, w.alloc (opO o) = w0 := ⟨_, rfl⟩
  rw [hw0] at hb0 hbx hsz
  obtain ⟨c0, c1, c2, c3, c4, c5, c6, c7⟩ := op_cells hbx
  rw [hk] at c0
  have hnm := O.name
  have D1 := T.d1.below hb0
  have D2 := T.d2.below hb0
  have HP := Lib.hid (attrP1 o.node o.name o.value _ D1 T.i1.good (T.i1.few T.few) hnm)
  have HR := Lib.hid (fun (w1 : World) (F1' : Nat → Prop) (n1 : Next w0 w1 F1 F1') => refAttr11 o.node o.name o.value w1 (doc_mid D1 D2 T.apart n1).1 T.i2.wf (by have := T.l2; omega) (T.i2.few T.few) hnm)
  have HX := Lib.hid (fun (w1 : World) (F1' : Nat → Prop) (n1 : Next w0 w1 F1 F1') => op_cells ((nx_block n1 (b := w.heap.size) hsz (fun h => Nat.lt_irrefl _ (T.d1.bd _ h))).1.trans hbx))
  have HT := Lib.hid T; have HD1 := Lib.hid D1; have HD2 := Lib.hid D2; have HB0 := Lib.hid hb0; have HE := Lib.hid e1
  have HW0 := Lib.hid hw0; have HKN := Lib.hid hk
  clear D1 D2 hb0 hbx e1 hw0 hk
  unfold TellsSays
  go_enter Try.func15, Try.ntmps15
  go_upto_region 1 with (fail)
  rw [HW0.out]
  go_wp2_with fail
  refine HP.out.mono ?_
  rintro e w1 ⟨rfl, F1', E1, N1⟩
  obtain ⟨_, d1, d2, d3, d4, d5, d6, d7⟩ := HX.out w1 F1' N1
  have HRR := Lib.hid (HR.out w1 F1' N1)
  obtain ⟨E2, hap⟩ := doc_mid HD1.out HD2.out HT.out.apart N1
  have HE1 := Lib.hid E1; have HN1 := Lib.hid N1; have HE2 := Lib.hid E2; have HAP := Lib.hid hap
  clear E1 N1 E2 hap c0 c1 c2 c3 c4 c5 c6 c7
  go_wp2_with fail
  refine HRR.out.mono ?_
  rintro e w2 ⟨rfl, F2', G2, N2⟩
  obtain ⟨G1, hap2, N12⟩ := doc_end HB0.out HE2.out HN1.out HAP.out HE1.out N2
  have HG1 := Lib.hid G1; have HG2 := Lib.hid G2; have HA2 := Lib.hid hap2; have HN12 := Lib.hid N12
  clear G1 G2 hap2 N12 N2
  go_wp2
  go_ret
  exact ⟨_, rfl, fun h => by subst h; simp, F1', F2', by rw [HE.out]; exact HG1.out, by rw [HE.out]; exact HG2.out, HA2.out, HN12.out⟩
set_option maxRecDepth 100000 in
set_option maxHeartbeats 4000000 in
theorem tells_drop (T : Two w N K p1 p2 F1 F2 B M M2) (O : OpOk w K o) (hk : o.kind = 6) : TellsSays N p1 p2 F1 F2 M M2 o w := by
  have e1 : ∀ L, opM L o = dropM11 L o.node o.name := fun L => by unfold opM; simp [hk]
  have hb0 := below_new w (opO o)
  have hbx := heap_alloc_new w (opO o)
  have hsz : w.heap.size < (w.alloc (opO o)).heap.size := by simp
  obtain ⟨w0, hw0⟩ : ∃ w0, w.alloc (opO o) = w0 := ⟨_, rfl⟩
  rw [hw0] at hb0 hbx hsz
  obtain ⟨c0, c1, c2, c3, c4, c5, c6, c7⟩ := op_cells hbx
  rw [hk] at c0
  have hnm := O.name
  have D1 := T.d1.below hb0
  have D2 := T.d2.below hb0
  have HP := Lib.hid (dropP1 o.node o.name _ D1 T.i1.good (T.i1.few T.few))
  have HR := Lib.hid (fun (w1 : World) (F1' : Nat → Prop) (n1 : Next w0 w1 F1 F1') => refDrop11 o.node o.name w1 (doc_mid D1 D2 T.apart n1).1 T.i2.wf (by have := T.l2; omega) (T.i2.few T.few))
  have HX := Lib.hid (fun (w1 : World) (F1' : Nat → Prop) (n1 : Next w0 w1 F1 F1') => op_cells ((nx_block n1 (b := w.heap.size) hsz (fun h => Nat.lt_irrefl _ (T.d1.bd _ h))).1.trans hbx))
  have HT := Lib.hid T; have HD1 := Lib.hid D1; have HD2 := Lib.hid D2; have HB0 := Lib.hid hb0; have HE := Lib.hid e1
  have HW0 := Lib.hid hw0; have HKN := Lib.hid hk
  clear D1 D2 hb0 hbx e1 hw0 hk
  unfold TellsSays
  go_enter Try.func15, Try.ntmps15
  go_upto_region 1 with (fail)
  rw [HW0.out]
  go_wp2_with fail
  refine HP.out.mono ?_
  rintro e w1 ⟨rfl, F1', E1, N1⟩
  obtain ⟨_, d1, d2, d3, d4, d5, d6, d7⟩ := HX.out w1 F1' N1
  have HRR := Lib.hid (HR.out w1 F1' N1)
  obtain ⟨E2, hap⟩ := doc_mid HD1.out HD2.out HT.out.apart N1
  have HE1 := Lib.hid E1; have HN1 := Lib.hid N1; have HE2 := Lib.hid E2; have HAP := Lib.hid hap
  clear E1 N1 E2 hap c0 c1 c2 c3 c4 c5 c6 c7
  go_wp2_with fail
  refine HRR.out.mono ?_
  rintro e w2 ⟨rfl, F2', G2, N2⟩
  obtain ⟨G1, hap2, N12⟩ := doc_end HB0.out HE2.out HN1.out HAP.out HE1.out N2
  have HG1 := Lib.hid G1; have HG2 := Lib.hid G2; have HA2 := Lib.hid hap2; have HN12 := Lib.hid N12
  clear G1 G2 hap2 N12 N2
  go_wp2
  go_ret
  exact ⟨_, rfl, fun h => by subst h; simp, F1', F2', by rw [HE.out]; exact HG1.out, by rw [HE.out]; exact HG2.out, HA2.out, HN12.out⟩
set_option maxRecDepth 100000 in
set_option maxHeartbeats 4000000 in
theorem tells_data (T : Two w N K p1 p2 F1 F2 B M M2) (O : OpOk w K o) (hk : o.kind = 7) : TellsSays N p1 p2 F1 F2 M M2 o w := by
  have e1 : ∀ L, opM L o = dataM L o.node o.value := fun L => by unfold opM; simp [hk]
  have hb0 := below_new w (opO o)
  have hbx := heap_alloc_new w (opO o)
  have hsz : w.heap.size < (w.alloc (opO o)).heap.size := by simp
  obtain ⟨w0, hw0⟩ : ∃ w0, w.alloc (opO o) = w0 := ⟨_, rfl⟩
  rw [hw0] at hb0 hbx hsz
  obtain ⟨c0, c1, c2, c3, c4, c5, c6, c7⟩ := op_cells hbx
  rw [hk] at c0
  have hnm := O.name
  have D1 := T.d1.below hb0
  have D2 := T.d2.below hb0
  have HP := Lib.hid (dataP1 o.node o.value _ D1)
  have HR := Lib.hid (fun (w1 : World) (F1' : Nat → Prop) (n1 : Next w0 w1 F1 F1') => refData1 o.node o.value w1 (doc_mid D1 D2 T.apart n1).1 T.i2.wf (by have := T.l2; omega) (T.i2.few T.few))
  have HX := Lib.hid (fun (w1 : World) (F1' : Nat → Prop) (n1 : Next w0 w1 F1 F1') => op_cells ((nx_block n1 (b := w.heap.size) hsz (fun h => Nat.lt_irrefl _ (T.d1.bd _ h))).1.trans hbx))
  have HT := Lib.hid T; have HD1 := Lib.hid D1; have HD2 := Lib.hid D2; have HB0 := Lib.hid hb0; have HE := Lib.hid e1
  have HW0 := Lib.hid hw0; have HKN := Lib.hid hk
  clear D1 D2 hb0 hbx e1 hw0 hk
  unfold TellsSays
  go_enter Try.func15, Try.ntmps15
  go_upto_region 1 with (fail)
  rw [HW0.out]
  go_wp2_with fail
  refine HP.out.mono ?_
  rintro e w1 ⟨rfl, F1', E1, N1⟩
  obtain ⟨_, d1, d2, d3, d4, d5, d6, d7⟩ := HX.out w1 F1' N1
  have HRR := Lib.hid (HR.out w1 F1' N1)
  obtain ⟨E2, hap⟩ := doc_mid HD1.out HD2.out HT.out.apart N1
  have HE1 := Lib.hid E1; have HN1 := Lib.hid N1; have HE2 := Lib.hid E2; have HAP := Lib.hid hap
  clear E1 N1 E2 hap c0 c1 c2 c3 c4 c5 c6 c7
  go_wp2_with fail
  refine HRR.out.mono ?_
  rintro e w2 ⟨rfl, F2', G2, N2⟩
  obtain ⟨G1, hap2, N12⟩ := doc_end HB0.out HE2.out HN1.out HAP.out HE1.out N2
  have HG1 := Lib.hid G1; have HG2 := Lib.hid G2; have HA2 := Lib.hid hap2; have HN12 := Lib.hid N12
  clear G1 G2 hap2 N12 N2
  go_wp2
  go_ret
  exact ⟨_, rfl, fun h => by subst h; simp, F1', F2', by rw [HE.out]; exact HG1.out, by rw [HE.out]; exact HG2.out, HA2.out, HN12.out⟩
end
end Go.Proofs.Ytfnffplnoicjcaa.Ar

namespace Go.Proofs.Ytfnffplnoicjcaa.Ar
set_option maxRecDepth 100000
set_option linter.unusedSimpArgs false
set_option linter.unusedVariables false
open Go.RowKit Ba
open Ro (At Ro Cw ros Rr Ow Nw Fr Att Ap Sh Ra Rv Held cells acells below_new infoI info_row len_cells rowV rowO Few check right)
section
variable {w : World} {N K p1 p2 B : Nat} {F1 F2 : Nat → Prop} {M M2 : List Nd} {o : Op11}
set_option maxRecDepth 100000 in
set_option maxHeartbeats 4000000 in
theorem tells_make (T : Two w N K p1 p2 F1 F2 B M M2) (O : OpOk w K o) (hk : o.kind = 0) : TellsSays N p1 p2 F1 F2 M M2 o w := by
  have e1 : ∀ L, opM L o = makeM L o.what o.name o.value := fun L => by unfold opM; simp [hk]
  have hb0 := below_new w (opO o)
  have hbx := heap_alloc_new w (opO o)
  have hsz : w.heap.size < (w.alloc (opO o)).heap.size := by simp
  obtain ⟨w0, hw0⟩ : ∃ w0, w.alloc (opO o) = w0 := ⟨_, rfl⟩
  rw [hw0] at hb0 hbx hsz
  obtain ⟨c0, c1, c2, c3, c4, c5, c6, c7⟩ := op_cells hbx
  rw [hk] at c0
  have hnm := O.name
  have D1 := T.d1.below hb0
  have D2 := T.d2.below hb0
  have hp := makeP1 o.what o.name o.value w0 D1 (by have := T.l1; omega) hnm
  have hr := fun (w1 : World) (F1' : Nat → Prop) (n1 : Next w0 w1 F1 F1') => refMake1 o.what o.name o.value w1 (doc_mid D1 D2 T.apart n1).1 T.i2.wf (by have := T.l2; omega) hnm O.what
  obtain ⟨ra, hra⟩ : ∃ ra, makeE M o.what o.name o.value = ra := ⟨_, rfl⟩
  obtain ⟨rb, hrb⟩ : ∃ rb, makeE M2 o.what o.name o.value = rb := ⟨_, rfl⟩
  rw [hra] at hp
  rw [hrb] at hr
  obtain ⟨a1, b1⟩ := ra
  obtain ⟨a2, b2⟩ := rb
  have HP := Lib.hid hp; have HR := Lib.hid hr; have HRA := Lib.hid hra; have HRB := Lib.hid hrb
  have HX := Lib.hid (fun (w1 : World) (F1' : Nat → Prop) (n1 : Next w0 w1 F1 F1') => op_cells ((nx_block n1 (b := w.heap.size) hsz (fun h => Nat.lt_irrefl _ (T.d1.bd _ h))).1.trans hbx))
  have HT := Lib.hid T; have HD1 := Lib.hid D1; have HD2 := Lib.hid D2; have HB0 := Lib.hid hb0; have HE := Lib.hid e1
  have HW0 := Lib.hid hw0; have HKN := Lib.hid hk
  clear D1 D2 hb0 hbx e1 hw0 hk hp hr hra hrb
  unfold TellsSays
  by_cases hab : a1 = a2
  · subst hab
    go_enter Try.func15, Try.ntmps15
    go_upto_region 1 with (fail)
    rw [HW0.out]
    go_wp2_with fail
    refine HP.out.mono ?_
    rintro e w1 ⟨rfl, F1', E1, N1⟩
    obtain ⟨_, d1, d2, d3, d4, d5, d6, d7⟩ := HX.out w1 F1' N1
    have HRR := Lib.hid (HR.out w1 F1' N1)
    obtain ⟨E2, hap⟩ := doc_mid HD1.out HD2.out HT.out.apart N1
    have HE1 := Lib.hid E1; have HN1 := Lib.hid N1; have HE2 := Lib.hid E2; have HAP := Lib.hid hap
    clear E1 N1 E2 hap c0 c1 c2 c3 c4 c5 c6 c7
    go_wp2_with fail
    refine HRR.out.mono ?_
    rintro e w2 ⟨rfl, F2', G2, N2⟩
    obtain ⟨G1, hap2, N12⟩ := doc_end HB0.out HE2.out HN1.out HAP.out HE1.out N2
    have HG1 := Lib.hid G1; have HG2 := Lib.hid G2; have HA2 := Lib.hid hap2; have HN12 := Lib.hid N12
    clear G1 G2 hap2 N12 N2
    go_wp2
    go_ret
    refine ⟨_, rfl, fun h => ?_, F1', F2', by rw [HE.out]; exact HG1.out, by rw [HE.out]; exact HG2.out, HA2.out, HN12.out⟩
    subst h
    have h3 := HRA.out.symm.trans HRB.out
    injection h3 with _ h3
    simp [h3]
  · have hbf : (a1 == a2) = false := by simpa using hab
    go_enter Try.func15, Try.ntmps15
    go_upto_region 1 with (fail)
    rw [HW0.out]
    go_wp2_with fail
    refine HP.out.mono ?_
    rintro e w1 ⟨rfl, F1', E1, N1⟩
    obtain ⟨_, d1, d2, d3, d4, d5, d6, d7⟩ := HX.out w1 F1' N1
    have HRR := Lib.hid (HR.out w1 F1' N1)
    obtain ⟨E2, hap⟩ := doc_mid HD1.out HD2.out HT.out.apart N1
    have HE1 := Lib.hid E1; have HN1 := Lib.hid N1; have HE2 := Lib.hid E2; have HAP := Lib.hid hap
    clear E1 N1 E2 hap c0 c1 c2 c3 c4 c5 c6 c7
    go_wp2_with fail
    refine HRR.out.mono ?_
    rintro e w2 ⟨rfl, F2', G2, N2⟩
    obtain ⟨G1, hap2, N12⟩ := doc_end HB0.out HE2.out HN1.out HAP.out HE1.out N2
    have HG1 := Lib.hid G1; have HG2 := Lib.hid G2; have HA2 := Lib.hid hap2; have HN12 := Lib.hid N12
    clear G1 G2 hap2 N12 N2
    go_wp2
    go_ret
    refine ⟨_, rfl, fun h => ?_, F1', F2', by rw [HE.out]; exact HG1.out, by rw [HE.out]; exact HG2.out, HA2.out, HN12.out⟩
    subst h
    have h3 := HRA.out.symm.trans HRB.out
    injection h3 with h3 _
    exact absurd h3 hab
set_option maxRecDepth 100000 in
set_option maxHeartbeats 4000000 in
theorem tells_clone (T : Two w N K p1 p2 F1 F2 B M M2) (O : OpOk w K o) (hk : o.kind = 4) : TellsSays N p1 p2 F1 F2 M M2 o w := by
  have e1 : ∀ L, opM L o = cloneM L o.node := fun L => by unfold opM; simp [hk]
  have hb0 := below_new w (opO o)
  have hbx := heap_alloc_new w (opO o)
  have hsz : w.heap.size < (w.alloc (opO o)).heap.size := by simp
  obtain ⟨w0, hw0⟩ : ∃ w0, w.alloc (opO o) = w0 := ⟨_, rfl⟩
  rw [hw0] at hb0 hbx hsz
  obtain ⟨c0, c1, c2, c3, c4, c5, c6, c7⟩ := op_cells hbx
  rw [hk] at c0
  have hnm := O.name
  have D1 := T.d1.below hb0
  have D2 := T.d2.below hb0
  have hp := cloneP1 o.node w0 D1 T.i1.wf T.l1 (T.i1.few T.few) (good_right T.i1.wf T.i1.good _)
  have hr := fun (w1 : World) (F1' : Nat → Prop) (n1 : Next w0 w1 F1 F1') => refClone11 o.node w1 (doc_mid D1 D2 T.apart n1).1 T.i2.wf T.l2 (T.i2.few T.few) (good_right T.i2.wf T.i2.good _)
  obtain ⟨ra, hra⟩ : ∃ ra, cloneE M o.node = ra := ⟨_, rfl⟩
  obtain ⟨rb, hrb⟩ : ∃ rb, cloneE M2 o.node = rb := ⟨_, rfl⟩
  rw [hra] at hp
  rw [hrb] at hr
  obtain ⟨a1, b1⟩ := ra
  obtain ⟨a2, b2⟩ := rb
  have HP := Lib.hid hp; have HR := Lib.hid hr; have HRA := Lib.hid hra; have HRB := Lib.hid hrb
  have HX := Lib.hid (fun (w1 : World) (F1' : Nat → Prop) (n1 : Next w0 w1 F1 F1') => op_cells ((nx_block n1 (b := w.heap.size) hsz (fun h => Nat.lt_irrefl _ (T.d1.bd _ h))).1.trans hbx))
  have HT := Lib.hid T; have HD1 := Lib.hid D1; have HD2 := Lib.hid D2; have HB0 := Lib.hid hb0; have HE := Lib.hid e1
  have HW0 := Lib.hid hw0; have HKN := Lib.hid hk
  clear D1 D2 hb0 hbx e1 hw0 hk hp hr hra hrb
  unfold TellsSays
  by_cases hab : a1 = a2
  · subst hab
    go_enter Try.func15, Try.ntmps15
    go_upto_region 1 with (fail)
    rw [HW0.out]
    go_wp2_with fail
    refine HP.out.mono ?_
    rintro e w1 ⟨rfl, F1', E1, N1⟩
    obtain ⟨_, d1, d2, d3, d4, d5, d6, d7⟩ := HX.out w1 F1' N1
    have HRR := Lib.hid (HR.out w1 F1' N1)
    obtain ⟨E2, hap⟩ := doc_mid HD1.out HD2.out HT.out.apart N1
    have HE1 := Lib.hid E1; have HN1 := Lib.hid N1; have HE2 := Lib.hid E2; have HAP := Lib.hid hap
    clear E1 N1 E2 hap c0 c1 c2 c3 c4 c5 c6 c7
    go_wp2_with fail
    refine HRR.out.mono ?_
    rintro e w2 ⟨rfl, F2', G2, N2⟩
    obtain ⟨G1, hap2, N12⟩ := doc_end HB0.out HE2.out HN1.out HAP.out HE1.out N2
    have HG1 := Lib.hid G1; have HG2 := Lib.hid G2; have HA2 := Lib.hid hap2; have HN12 := Lib.hid N12
    clear G1 G2 hap2 N12 N2
    go_wp2
    go_ret
    refine ⟨_, rfl, fun h => ?_, F1', F2', by rw [HE.out]; exact HG1.out, by rw [HE.out]; exact HG2.out, HA2.out, HN12.out⟩
    subst h
    have h3 := HRA.out.symm.trans HRB.out
    injection h3 with _ h3
    simp [h3]
  · have hbf : (a1 == a2) = false := by simpa using hab
    go_enter Try.func15, Try.ntmps15
    go_upto_region 1 with (fail)
    rw [HW0.out]
    go_wp2_with fail
    refine HP.out.mono ?_
    rintro e w1 ⟨rfl, F1', E1, N1⟩
    obtain ⟨_, d1, d2, d3, d4, d5, d6, d7⟩ := HX.out w1 F1' N1
    have HRR := Lib.hid (HR.out w1 F1' N1)
    obtain ⟨E2, hap⟩ := doc_mid HD1.out HD2.out HT.out.apart N1
    have HE1 := Lib.hid E1; have HN1 := Lib.hid N1; have HE2 := Lib.hid E2; have HAP := Lib.hid hap
    clear E1 N1 E2 hap c0 c1 c2 c3 c4 c5 c6 c7
    go_wp2_with fail
    refine HRR.out.mono ?_
    rintro e w2 ⟨rfl, F2', G2, N2⟩
    obtain ⟨G1, hap2, N12⟩ := doc_end HB0.out HE2.out HN1.out HAP.out HE1.out N2
    have HG1 := Lib.hid G1; have HG2 := Lib.hid G2; have HA2 := Lib.hid hap2; have HN12 := Lib.hid N12
    clear G1 G2 hap2 N12 N2
    go_wp2
    go_ret
    refine ⟨_, rfl, fun h => ?_, F1', F2', by rw [HE.out]; exact HG1.out, by rw [HE.out]; exact HG2.out, HA2.out, HN12.out⟩
    subst h
    have h3 := HRA.out.symm.trans HRB.out
    injection h3 with h3 _
    exact absurd h3 hab
set_option maxRecDepth 100000 in
set_option maxHeartbeats 4000000 in
theorem tells_other (T : Two w N K p1 p2 F1 F2 B M M2) (O : OpOk w K o) (hk : ¬ o.kind = 0 ∧ ¬ o.kind = 1 ∧ ¬ o.kind = 2 ∧ ¬ o.kind = 3 ∧ ¬ o.kind = 4 ∧ ¬ o.kind = 5 ∧ ¬ o.kind = 6 ∧ ¬ o.kind = 7) : TellsSays N p1 p2 F1 F2 M M2 o w := by
  obtain ⟨k0, k1, k2, k3, k4, k5, k6, k7⟩ := hk
  have e1 : ∀ L, opM L o = L := fun L => by unfold opM; simp [k0, k1, k2, k3, k4, k5, k6, k7]
  have hb0 := below_new w (opO o)
  have hbx := heap_alloc_new w (opO o)
  obtain ⟨w0, hw0⟩ : ∃ w0, w.alloc (opO o) = w0 := ⟨_, rfl⟩
  rw [hw0] at hb0 hbx
  obtain ⟨c0, _, _, _, _, _, _, _⟩ := op_cells hbx
  obtain ⟨kd, hkd⟩ : ∃ kd, o.kind = kd := ⟨_, rfl⟩
  rw [hkd] at c0 k0 k1 k2 k3 k4 k5 k6 k7
  have b0 : (kd == 0) = false := by simpa using k0
  have b1 : (kd == 1) = false := by simpa using k1
  have b2 : (kd == 2) = false := by simpa using k2
  have b3 : (kd == 3) = false := by simpa using k3
  have b4 : (kd == 4) = false := by simpa using k4
  have b5 : (kd == 5) = false := by simpa using k5
  have b6 : (kd == 6) = false := by simpa using k6
  have b7 : (kd == 7) = false := by simpa using k7
  have HB0 := Lib.hid hb0; have HE := Lib.hid e1; have HW0 := Lib.hid hw0; have HT := Lib.hid T
  clear hb0 hbx e1 hw0 hkd T
  unfold TellsSays
  go_enter Try.func15, Try.ntmps15
  go_upto_region 1 with (fail)
  rw [HW0.out]
  go_wp2
  go_ret
  exact ⟨_, rfl, fun _ => rfl, F1, F2, by rw [HE.out]; exact HT.out.d1.below HB0.out, by rw [HE.out]; exact HT.out.d2.below HB0.out, HT.out.apart, Next.of_below HB0.out⟩
end
end Go.Proofs.Ytfnffplnoicjcaa.Ar

namespace Go.Proofs.Ytfnffplnoicjcaa.Ar
set_option maxRecDepth 100000
set_option linter.unusedSimpArgs false
set_option linter.unusedVariables false
open Go.RowKit Ba
open Ro (At Ro Cw ros Rr Ow Nw Fr Att Ap Sh Ra Rv Held cells acells below_new infoI info_row len_cells rowV rowO Few check right)
section
variable {w : World} {N K p1 p2 B : Nat} {F1 F2 : Nat → Prop} {M M2 : List Nd} {o : Op11}
theorem op_rows {w' : World} (O : OpOk w K o) (hb : Below K w w') (hK : K ≤ w.heap.size) : Rr w' K o.A o.x := O.rows.below hb
/-- The call's trees stay as they are where only a document is touched. -/
theorem rv_trees {F : Nat → Prop} {L : Nat} {w1 w2 : World} {v : Value} {l : List Cw} (ho : Ow L w1 v l) (hat : ∀ x ∈ l, Att w1 K x) (hh : Held (ros l)) (hF : ∀ b, F b → K ≤ b ∧ b < L) (t : Touch F w1 w2) : Rv w2 v l := by
  obtain ⟨A, c, rfl, hc, hcm, _, hrr⟩ := ho.form
  refine ⟨A, c, rfl, hc, hcm, ⟨fun h0 => ?_, fun x hx => ?_⟩, hh⟩
  · obtain ⟨b, off, he, hb, hcell⟩ := hrr.1 h0
    have hLb : L ≤ b := own_blk ho.1 (by rw [he]; rfl)
    refine ⟨b, off, he, Nat.lt_of_lt_of_le hb t.size, fun j hj i u hu => ?_⟩
    rw [← hcell j hj i u hu]
    exact World.cell?_of_block (a := ⟨b, off + j * 5 + i, none⟩) (t.block b hb fun hf => by have := hF b hf; omega)
  · have h1 := hat x hx
    have h2 := hrr.2 x hx
    refine ⟨h1.1, h1.2.1, h1.2.2.1, fun h0 => ?_, h1.2.2.2.2⟩
    obtain ⟨b, off, he, hb, hcell⟩ := h1.2.2.2.1 h0
    obtain ⟨b', off', he', hb', _⟩ := h2.2.2.2.1 h0
    rw [he] at he'
    injection he' with he'
    injection he' with he1 _
    subst he1
    refine ⟨b, off, he, Nat.lt_of_lt_of_le hb' t.size, fun j hj i u hu => ?_⟩
    rw [← hcell j hj i u hu]
    exact World.cell?_of_block (a := ⟨b, off + j * 2 + i, none⟩) (t.block b hb' fun hf => by have := hF b hf; omega)
theorem held_cut {l : List Ro} (h : Held l) : Held (cut12 l) := fun x hx => by
  obtain ⟨y, hy, rfl⟩ := List.mem_map.1 hx
  exact h y (List.mem_of_mem_take hy)
theorem few_cut (l : List Ro) : Few (cut12 l) := fun x hx => Nat.le_trans (cut12_attrs l x hx) (by decide)
set_option maxRecDepth 100000 in
set_option maxHeartbeats 4000000 in
theorem tells_load (T : Two w N K p1 p2 F1 F2 B M M2) (O : OpOk w K o) (hk : o.kind = 1) : TellsSays N p1 p2 F1 F2 M M2 o w := by
  obtain ⟨R, hR⟩ : ∃ R, cut12 (ros o.x) = R := ⟨_, rfl⟩
  have e1 : ∀ L, opM L o = loadM L R := fun L => by unfold opM; simp [hk, hR]
  have hb0 := below_new w (opO o)
  have hbx := heap_alloc_new w (opO o)
  have hsz : w.heap.size < (w.alloc (opO o)).heap.size := by simp
  obtain ⟨w0, hw0⟩ : ∃ w0, w.alloc (opO o) = w0 := ⟨_, rfl⟩
  rw [hw0] at hb0 hbx hsz
  obtain ⟨c0, c1, c2, c3, c4, c5, c6, c7⟩ := op_cells hbx
  rw [hk] at c0
  have hRl : R.length ≤ 12 := by rw [← hR]; exact cut12_len _
  have hRh : Held R := by rw [← hR]; exact held_cut O.held
  have hRf : Few R := by rw [← hR]; exact few_cut _
  have htr1 := trees1 K o.A o.c o.x w0 (op_rows O (hb0.mono T.hK) T.hK) (Nat.le_trans T.hK hb0.size) O.cap.1 O.cap.2
  rw [hR] at htr1
  have HTR := Lib.hid htr1
  have HR := Lib.hid hR; have HRH := Lib.hid hRh; have HRF := Lib.hid hRf; have HBX := Lib.hid hbx; have HO := Lib.hid O
  have HT := Lib.hid T; have HB0 := Lib.hid hb0; have HE := Lib.hid e1
  have HW0 := Lib.hid hw0; have HKN := Lib.hid hk
  obtain ⟨ea, hea⟩ : ∃ ea, loadE M R = ea := ⟨_, rfl⟩
  obtain ⟨eb, heb⟩ : ∃ eb, loadE M2 R = eb := ⟨_, rfl⟩
  have HEA := Lib.hid hea; have HEB := Lib.hid heb
  clear hb0 hbx e1 hw0 hk htr1 hR hRh hRf O T hea heb
  unfold TellsSays
  go_enter Try.func15, Try.ntmps15
  go_upto_region 1 with (fail)
  rw [HW0.out]
  go_wp2_with fail
  refine HTR.out.mono ?_
  rintro e w1 ⟨v1, y1, rfl, ho1, ha1, hr1, hb1⟩
  have hF1 : ∀ b, F1 b → K ≤ b ∧ b < w0.heap.size := fun b hb => ⟨HT.out.low1 b hb, Nat.lt_of_lt_of_le (HT.out.d1.bd b hb) HB0.out.size⟩
  have hF2 : ∀ b, F2 b → K ≤ b ∧ b < w0.heap.size := fun b hb => ⟨HT.out.low2 b hb, Nat.lt_of_lt_of_le (HT.out.d2.bd b hb) HB0.out.size⟩
  have hl1 : y1.length ≤ 12 := by rw [← Ro.len_ros, hr1]; exact hRl
  have hld := loadP1 (p := p1) (N := N) (F := F1) (M := M) v1 y1 w1 (HT.out.d1.below (bt HB0.out hb1)) HT.out.i1.wf (by have := HT.out.l1; omega) (fun w' t => rv_trees ho1 ha1 (by rw [hr1]; exact HRH.out) hF1 t) (by omega) (by rw [hr1]; exact HRF.out)
  rw [hr1, HEA.out] at hld
  have hy1 : y1.length = R.length := by rw [← Ro.len_ros, hr1]
  rw [hy1] at hld
  have HLD := Lib.hid hld
  have HB1 := Lib.hid (bt HB0.out hb1); have HB01 := Lib.hid hb1
  clear hld ho1 ha1 hr1 hb1 HTR hy1 hl1
  go_wp2_with fail
  refine HLD.out.mono ?_
  rintro e w2 ⟨u1, rfl, hn1, F1', E1, N1, hf1⟩
  have hbx2 := ((nx_block N1 (b := w.heap.size) (by have := HB01.out.size; omega) (fun h => Nat.lt_irrefl _ (HT.out.d1.bd _ h))).1.trans ((HB01.out.block _ hsz).trans HBX.out))
  obtain ⟨_, d1, d2, d3, d4, d5, d6, d7⟩ := op_cells hbx2
  have D1w1 := HT.out.d1.below HB1.out
  have D2w1 := HT.out.d2.below HB1.out
  obtain ⟨E2, hap⟩ := doc_mid D1w1 D2w1 HT.out.apart N1
  have hbK2 : Below K w w2 := by
    have h1 := HB1.out
    refine ⟨N1.1.os.trans h1.os, N1.1.tape.trans h1.tape, N1.1.output.trans h1.output, Nat.le_trans h1.size N1.1.size, fun b hb => ?_⟩
    have := HT.out.hK
    exact (N1.1.block b (by have := h1.size; omega) (fun hf => by have := HT.out.low1 b hf; omega)).trans (h1.block b (by omega))
  have htr2 := trees1 K o.A o.c o.x w2 (op_rows HO.out hbK2 HT.out.hK) (Nat.le_trans HT.out.hK hbK2.size) HO.out.cap.1 HO.out.cap.2
  rw [HR.out] at htr2
  have HTR2 := Lib.hid htr2
  have HN1 := Lib.hid N1; have HE1 := Lib.hid E1; have HE2 := Lib.hid E2; have HAP := Lib.hid hap; have HU1 := Lib.hid hn1; have HF1 := Lib.hid hf1
  clear hbx2 N1 E1 E2 hap hn1 hf1 htr2 hbK2 D1w1 D2w1 HLD c0 c1 c2 c3 c4 c5 c6 c7
  go_wp2_with fail
  refine HTR2.out.mono ?_
  rintro e w3 ⟨v2, y2, rfl, ho2, ha2, hr2, hb2⟩
  have hl2 : y2.length ≤ 12 := by rw [← Ro.len_ros, hr2]; exact hRl
  have hs12 := HN1.out.1.size
  have hs01 := HB01.out.size
  have hld2 := refLoad11 (p := p2) (N := N) (F := F2) (M := M2) v2 y2 w3 (HE2.out.below hb2) HT.out.i2.wf (by have := HT.out.l2; omega) (fun w' t => rv_trees ho2 ha2 (by rw [hr2]; exact HRH.out) (fun b hb => ⟨(hF2 b hb).1, by have := (hF2 b hb).2; omega⟩) t) (by omega) (by rw [hr2]; exact HRF.out)
  rw [hr2, HEB.out] at hld2
  have hy2 : y2.length = R.length := by rw [← Ro.len_ros, hr2]
  rw [hy2] at hld2
  have HLD2 := Lib.hid hld2
  have HB2 := Lib.hid hb2
  clear hld2 ho2 ha2 hr2 hb2 HTR2 hy2 hl2
  go_wp2_with fail
  refine HLD2.out.mono ?_
  rintro e w4 ⟨u2, rfl, hn2, F2', G2, N2, hf2⟩
  obtain ⟨l1, hl1⟩ : ∃ l1, (if ea = 0 then rootsTo M.length (parI R) R.length else []) = l1 := ⟨_, rfl⟩
  obtain ⟨l2, hl2⟩ : ∃ l2, (if eb = 0 then rootsTo M2.length (parI R) R.length else []) = l2 := ⟨_, rfl⟩
  have hu1 := HU1.out
  rw [hl1] at hu1
  rw [hl2] at hn2
  have hu14 : Nw w1.heap.size w4 u1 l1 := nw_touch (hu1.below HB2.out) N2.1 fun b hb hf => by
    have h1 := (owns_lt hu1 hb).1
    have h2 := (hF2 b hf).2
    omega
  have hb3 := HB2.out.size
  have n13 := HN1.out.trans (Next.of_below HB2.out)
  obtain ⟨G1, hap2, N12⟩ := doc_end HB1.out (HE2.out.below HB2.out) n13 HAP.out (HE1.out.below HB2.out) N2
  have HG1 := Lib.hid G1; have HG2 := Lib.hid G2; have HA2 := Lib.hid hap2; have HN12 := Lib.hid N12
  obtain ⟨q, hq⟩ : ∃ q, decide (l1 = l2) = q := ⟨_, rfl⟩
  have HNU := Lib.hid (nums1 w4 hu14 hn2 q hq)
  have HQ := Lib.hid hq; have HL1 := Lib.hid hl1; have HL2 := Lib.hid hl2
  clear hu1 hn2 hu14 hb3 n13 G1 G2 hap2 N12 N2 hf2 hq hl1 hl2 HLD2 hF1 hF2 hs12 hs01
  have fin : ∀ (w5 : World), Below w4.heap.size w4 w5 → ∃ F1' F2', Doc12 w5 N F1' p1 (opM M o) ∧ Doc11 w5 N F2' p2 (opM M2 o) ∧ (∀ b, F1' b → ¬ F2' b) ∧ Next w w5 (FU F1 F2) (FU F1' F2') := fun w5 hb => by
    refine ⟨F1', F2', ?_, ?_, HA2.out, HN12.out.trans (Next.of_below hb)⟩
    · rw [HE.out]
      unfold loadM
      rw [HEA.out]
      exact HG1.out.below hb
    · rw [HE.out]
      unfold loadM
      rw [HEB.out]
      exact HG2.out.below hb
  have FIN := Lib.hid fin
  clear fin
  cases q with
  | true =>
    go_wp2_with fail
    refine HNU.out.mono ?_
    rintro e w5 ⟨rfl, hb5⟩
    have HB5 := Lib.hid hb5
    clear hb5
    go_wp2
    go_ret
    refine ⟨_, rfl, fun h => ?_, FIN.out _ HB5.out⟩
    subst h
    have h3 := HEA.out.symm.trans HEB.out
    simp [h3]
  | false =>
    go_wp2_with fail
    refine HNU.out.mono ?_
    rintro e w5 ⟨rfl, hb5⟩
    have HB5 := Lib.hid hb5
    clear hb5
    go_wp2
    go_ret
    refine ⟨_, rfl, fun h => ?_, FIN.out _ HB5.out⟩
    subst h
    have h3 := HEA.out.symm.trans HEB.out
    have h4 := of_decide_eq_false HQ.out
    exact absurd (by rw [← HL1.out, ← HL2.out, h3]) h4
theorem tells1 (T : Two w N K p1 p2 F1 F2 B M M2) (O : OpOk w K o) : TellsSays N p1 p2 F1 F2 M M2 o w := by
  by_cases k0 : o.kind = 0
  · exact tells_make T O k0
  by_cases k1 : o.kind = 1
  · exact tells_load T O k1
  by_cases k2 : o.kind = 2
  · exact tells_ins T O k2
  by_cases k3 : o.kind = 3
  · exact tells_rem T O k3
  by_cases k4 : o.kind = 4
  · exact tells_clone T O k4
  by_cases k5 : o.kind = 5
  · exact tells_attr T O k5
  by_cases k6 : o.kind = 6
  · exact tells_drop T O k6
  by_cases k7 : o.kind = 7
  · exact tells_data T O k7
  exact tells_other T O ⟨k0, k1, k2, k3, k4, k5, k6, k7⟩
end
end Go.Proofs.Ytfnffplnoicjcaa.Ar

namespace Go.Proofs.Ytfnffplnoicjcaa.Ar
set_option maxRecDepth 100000
set_option linter.unusedSimpArgs false
set_option linter.unusedVariables false
open Go.RowKit Ba
open Ro (At Ro Cw ros Rr Ow Nw Fr Att Ap Sh Ra Rv Held cells acells below_new infoI info_row len_cells rowV rowO Few check right)
/-- The program's document, in blocks that are new since w0. -/
def One (w0 w : World) (p : Nat) (M : List Nd) : Prop := ∃ F, Doc12 w w0.heap.size F p M ∧ (∀ b, F b → w0.heap.size ≤ b) ∧ Below w0.heap.size w0 w
theorem one_next {w0 w w' : World} {F F' : Nat → Prop} {p : Nat} {M' : List Nd} (hl : ∀ b, F b → w0.heap.size ≤ b) (hb : Below w0.heap.size w0 w) (D : Doc12 w' w0.heap.size F' p M') (n : Next w w' F F') : One w0 w' p M' := by
  have hs := hb.size
  have hs' := n.1.size
  refine ⟨F', D, fun b h => ?_, ⟨n.1.os.trans hb.os, n.1.tape.trans hb.tape, n.1.output.trans hb.output, by omega, fun b h => (n.1.block b (by omega) fun hf => by have := hl b hf; omega).trans (hb.block b h)⟩⟩
  rcases n.2.2 b h with h | h
  · exact hl b h
  · omega
section
variable {w0 w w' : World} {p : Nat} {M : List Nd}
theorem One.bel (S : One w0 w p M) : Below w0.heap.size w0 w := by
  obtain ⟨_, _, _, h⟩ := S
  exact h
theorem One.below (S : One w0 w p M) (hb : Below w.heap.size w w') : One w0 w' p M := by
  obtain ⟨F, D, hl, hB⟩ := S
  exact ⟨F, D.below hb, hl, bt hB hb⟩
theorem One.drew (S : One w0 w p M) : One w0 w.drew p M := S.below ⟨rfl, rfl, rfl, Nat.le_refl _, fun _ _ => rfl⟩
theorem One.new (w0 w : World) (hb : Below w0.heap.size w0 w) : Calls Try.prog 14 #[] w fun e w' => ∃ p, e = .returned (.pointer (some ⟨p, 0, none⟩)) ∧ One w0 w' p M0 := by
  refine (newP1 w).mono ?_
  rintro e w' ⟨p, F, rfl, D, hb', hl⟩
  have hs := hb.size
  obtain ⟨gE, cE, lE, D⟩ := D
  refine ⟨p, rfl, F, ⟨gE, cE, lE, ⟨D.box, World.ownsRow.mono D.ents hs, fun e he => ⟨⟨(D.attrs e he).1.1.mono hs, (D.attrs e he).1.2⟩, (D.attrs e he).2⟩, fun e he => ⟨Of.mono (D.kids e he).1 hs, (D.kids e he).2⟩, D.apA, D.apK, D.same, Nat.le_trans hs D.low, D.fp, D.fe, D.bd⟩⟩, fun b h => Nat.le_trans hs (hl b h), bt hb hb'⟩
theorem One.make (S : One w0 w p M) (hm : M.length ≤ 5000) (k : Int) (n d : ByteArray) (hs : n.size ≤ 140737488355328) : Calls Try.prog 24 #[.pointer (some ⟨p, 0, none⟩), .int .i64 k, .string n, .string d] w fun e w' => e = .returned (.tuple #[.int .i64 (makeE M k n d).1, .int .i64 (makeE M k n d).2]) ∧ One w0 w' p (makeM M k n d) := by
  obtain ⟨F, D, hl, hB⟩ := S
  refine (makeP1 k n d w D hm hs).mono ?_
  rintro e w' ⟨rfl, F', D', N'⟩
  exact ⟨rfl, one_next hl hB D' N'⟩
theorem One.insert (S : One w0 w p M) (W : Wf M) (hm : M.length ≤ 5000) (P A n : Int) : Calls Try.prog 11 #[.pointer (some ⟨p, 0, none⟩), .int .i64 P, .int .i64 A, .int .i64 n] w fun e w' => e = .returned (.int .i64 (insE M P A n)) ∧ One w0 w' p (insM M P A n) := by
  obtain ⟨F, D, hl, hB⟩ := S
  refine (insertP1 P A n w D W hm).mono ?_
  rintro e w' ⟨rfl, F', D', N'⟩
  exact ⟨rfl, one_next hl hB D' N'⟩
theorem One.remove (S : One w0 w p M) (W : Wf M) (hm : M.length ≤ 5000) (n : Int) (q : Int) (hq : (if 1 ≤ n ∧ n < M.length then (0 : Int) else 110) = q) : Calls Try.prog 30 #[.pointer (some ⟨p, 0, none⟩), .int .i64 n] w fun e w' => e = .returned (.int .i64 q) ∧ One w0 w' p (remM M n) := by
  obtain ⟨F, D, hl, hB⟩ := S
  refine (removeP1 n w D W hm q hq).mono ?_
  rintro e w' ⟨rfl, F', D', N'⟩
  exact ⟨rfl, one_next hl hB D' N'⟩
theorem One.clone {B : Nat} (S : One w0 w p M) (I : Inv B M) (hB : B ≤ 1000000) (hm : M.length ≤ 1000) (n : Int) : Calls Try.prog 27 #[.pointer (some ⟨p, 0, none⟩), .int .i64 n] w fun e w' => e = .returned (.tuple #[.int .i64 (cloneE M n).1, .int .i64 (cloneE M n).2]) ∧ One w0 w' p (cloneM M n) := by
  obtain ⟨F, D, hl, hB'⟩ := S
  refine (cloneP1 n w D I.wf hm (I.few hB) (good_right I.wf I.good n)).mono ?_
  rintro e w' ⟨rfl, F', D', N'⟩
  exact ⟨rfl, one_next hl hB' D' N'⟩
theorem One.attr {B : Nat} (S : One w0 w p M) (I : Inv B M) (hB : B ≤ 1000000) (n : Int) (nm v : ByteArray) (hs : nm.size ≤ 140737488355328) : Calls Try.prog 25 #[.pointer (some ⟨p, 0, none⟩), .int .i64 n, .string nm, .string v] w fun e w' => e = .returned (.int .i64 (attrE11 M n nm)) ∧ One w0 w' p (attrM11 M n nm v) := by
  obtain ⟨F, D, hl, hB'⟩ := S
  refine (attrP1 n nm v w D I.good (I.few hB) hs).mono ?_
  rintro e w' ⟨rfl, F', D', N'⟩
  exact ⟨rfl, one_next hl hB' D' N'⟩
theorem One.drop {B : Nat} (S : One w0 w p M) (I : Inv B M) (hB : B ≤ 1000000) (n : Int) (nm : ByteArray) : Calls Try.prog 26 #[.pointer (some ⟨p, 0, none⟩), .int .i64 n, .string nm] w fun e w' => e = .returned (.int .i64 (dropE11 M n nm)) ∧ One w0 w' p (dropM11 M n nm) := by
  obtain ⟨F, D, hl, hB'⟩ := S
  refine (dropP1 n nm w D I.good (I.few hB)).mono ?_
  rintro e w' ⟨rfl, F', D', N'⟩
  exact ⟨rfl, one_next hl hB' D' N'⟩
theorem One.data (S : One w0 w p M) (n : Int) (d : ByteArray) : Calls Try.prog 46 #[.pointer (some ⟨p, 0, none⟩), .int .i64 n, .string d] w fun e w' => e = .returned (.int .i64 (dataE M n)) ∧ One w0 w' p (dataM M n d) := by
  obtain ⟨F, D, hl, hB⟩ := S
  refine (dataP1 n d w D).mono ?_
  rintro e w' ⟨rfl, F', D', N'⟩
  exact ⟨rfl, one_next hl hB D' N'⟩
theorem One.len (S : One w0 w p M) : Calls Try.prog 7 #[.pointer (some ⟨p, 0, none⟩)] w fun e w' => e = .returned (.int .i64 M.length) ∧ w' = w := by
  obtain ⟨F, ⟨gE, cE, lE, D⟩, hl, hB⟩ := S
  exact len1 w D
theorem One.parent (S : One w0 w p M) (n : Int) (q : Int) (hq : (if 0 ≤ n ∧ n < M.length then (nd M n.toNat).up else -1) = q) : Calls Try.prog 28 #[.pointer (some ⟨p, 0, none⟩), .int .i64 n] w fun e w' => e = .returned (.int .i64 q) ∧ w' = w := by
  obtain ⟨F, ⟨gE, cE, lE, D⟩, hl, hB⟩ := S
  exact parent1 n w D q hq
theorem One.within (S : One w0 w p M) (W : Wf M) (hm : M.length ≤ 5000) (n o : Int) (q : Bool) (hq : q = true ↔ Win M n o) : Calls Try.prog 29 #[.pointer (some ⟨p, 0, none⟩), .int .i64 n, .int .i64 o] w fun e w' => e = .returned (.bool q) ∧ w' = w := by
  obtain ⟨F, ⟨gE, cE, lE, D⟩, hl, hB⟩ := S
  exact withinP1 n o w D W hm q hq
theorem One.kids (S : One w0 w p M) (W : Wf M) (hm : M.length ≤ 5000) (n : Int) : Calls Try.prog 12 #[.pointer (some ⟨p, 0, none⟩), .int .i64 n] w fun e w' => ∃ v, e = .returned v ∧ Nw w.heap.size w' v (kidsI M n) ∧ Below w.heap.size w w' := by
  obtain ⟨F, ⟨gE, cE, lE, D⟩, hl, hB⟩ := S
  exact kidsP1 n w D W hm
theorem rows_held {B : Nat} (I : Inv B M) (hm : M.length ≤ 5000) (n : Int) : Held (rowsM M n) := fun x hx => by
  have h2 := rows_short I.wf n
  have := right_held _ 0 (good_right I.wf I.good n) x hx
  omega
theorem One.rows {B : Nat} (S : One w0 w p M) (I : Inv B M) (hB : B ≤ 1000000) (hm : M.length ≤ 5000) (n : Int) : Calls Try.prog 6 #[.pointer (some ⟨p, 0, none⟩), .int .i64 n] w fun e w' => ∃ v l, e = .returned v ∧ Rv w' v l ∧ ros l = rowsM M n ∧ l.length ≤ M.length ∧ Ow w.heap.size w' v l ∧ (∀ x ∈ l, Fr w.heap.size w' x) ∧ Below w.heap.size w w' := by
  obtain ⟨F, D, hl, hB'⟩ := S
  refine (rowsP1 n w D I.wf hm (I.few hB)).mono ?_
  rintro e w' ⟨v, l, rfl, ho, hf, hr, hb⟩
  refine ⟨v, l, rfl, ho.rv (by rw [hr]; exact rows_held I hm n), hr, ?_, ho, hf, hb⟩
  rw [← Ro.len_ros, hr]
  exact rows_short I.wf n
end
end Go.Proofs.Ytfnffplnoicjcaa.Ar

namespace Go.Proofs.Ytfnffplnoicjcaa.Ar
set_option maxRecDepth 100000
set_option linter.unusedSimpArgs false
set_option linter.unusedVariables false
open Go.RowKit Ba
open Ro (At Ro Cw ros Rr Ow Nw Fr Att Ap Sh Ra Rv Held cells acells below_new infoI info_row len_cells rowV rowO Few check right refSame1)
def bP : ByteArray := ⟨#[112]⟩
def bX : ByteArray := ⟨#[120]⟩
def bId : ByteArray := ⟨#[105, 100]⟩
def bV : ByteArray := ⟨#[118]⟩
def b0 : ByteArray := ⟨#[]⟩
def rP : Ro := ⟨0, 0, bP, b0, []⟩
def rPa : Ro := ⟨0, 0, bP, b0, [⟨bId, bV⟩]⟩
def rT : Ro := ⟨0, 1, b0, bX, []⟩
def F1 : List Nd := [⟨ro00, -1, []⟩, ⟨rP, -1, []⟩]
def F2 : List Nd := [⟨ro00, -1, [1]⟩, ⟨rP, 0, []⟩]
def F3 : List Nd := [⟨ro00, -1, [1]⟩, ⟨rP, 0, []⟩, ⟨rT, -1, []⟩]
def F4 : List Nd := [⟨ro00, -1, [1]⟩, ⟨rP, 0, [2]⟩, ⟨rT, 1, []⟩]
def F5 : List Nd := [⟨ro00, -1, [1]⟩, ⟨rPa, 0, [2]⟩, ⟨rT, 1, []⟩]
def F6 : List Nd := [⟨ro00, -1, [1]⟩, ⟨rPa, 0, [2]⟩, ⟨rT, 1, []⟩, ⟨rPa, -1, [4]⟩, ⟨rT, 3, []⟩]
theorem f1_ans : makeE M0 0 bP b0 = (1, 0) := by kernel_rfl
theorem f1_doc : makeM M0 0 bP b0 = F1 := by kernel_rfl
theorem f3_ans : makeE F2 1 b0 bX = (2, 0) := by kernel_rfl
theorem f3_doc : makeM F2 1 b0 bX = F3 := by kernel_rfl
theorem f5_ans : attrE11 F4 1 bId = 0 := by kernel_rfl
theorem f5_doc : attrM11 F4 1 bId bV = F5 := by kernel_rfl
theorem f5_drop : dropE11 F5 1 bX = 1 := by kernel_rfl
theorem f5_dropM : dropM11 F5 1 bX = F5 := by kernel_rfl
theorem f6_ans : cloneE F5 1 = (3, 0) := by kernel_rfl
theorem f6_doc : cloneM F5 1 = F6 := by kernel_rfl
theorem f6_make : makeE F6 0 b0 b0 = (0, 1) := by kernel_rfl
theorem f6_makeM : makeM F6 0 b0 b0 = F6 := by kernel_rfl
theorem f2_doc : setM F1 0 0 1 = F2 := by kernel_rfl
theorem f4_doc : setM F3 1 0 2 = F4 := by kernel_rfl
theorem f6_rows0 : rowsM F6 0 = [rPa, { rT with depth := 1 }] := by kernel_rfl
theorem f6_rows3 : rowsM F6 3 = [rPa, { rT with depth := 1 }] := by kernel_rfl
theorem not_up {M : List Nd} {a b : Nat} (h : a ≠ b) (hu : (nd M a).up = -1) : ¬ Win M a b := by
  rw [win_nat, up_iff]
  rintro ⟨_, h1 | ⟨p, h1, _⟩⟩
  · exact h h1
  · omega
theorem i_M0 : Inv 4 M0 := inv_M0.more (by decide)
theorem i_F1 : Inv 4 F1 := f1_doc ▸ i_M0.make 0 bP b0
theorem f2_ins : insE F1 0 0 1 = 0 ∧ insM F1 0 0 1 = F2 := by
  have h := ins_0 (M := F1) (P := 0) (A := 0) (n := 1) (by decide) (fun h => by
    rcases h with h | h
    · omega
    · exact not_up (M := F1) (a := 0) (b := 1) (by decide) rfl h) (by decide)
  exact ⟨h.1, h.2.trans f2_doc⟩
theorem i_F2 : Inv 4 F2 := f2_ins.2 ▸ i_F1.ins 0 0 1
theorem f2_self : insE F2 1 0 1 = 111 ∧ insM F2 1 0 1 = F2 := ins_111 (by decide) (.inr (win_nat (a := 1) (b := 1) |>.2 (.refl (by decide))))
theorem i_F3 : Inv 4 F3 := f3_doc ▸ i_F2.make 1 b0 bX
theorem f4_ins : insE F3 1 0 2 = 0 ∧ insM F3 1 0 2 = F4 := by
  have h := ins_0 (M := F3) (P := 1) (A := 0) (n := 2) (by decide) (fun h => by
    rcases h with h | h
    · exact h.2 rfl
    · have h := (win_nat (M := F3) (a := 1) (b := 2)).1 h
      rw [up_iff] at h
      rcases h with ⟨_, h1 | ⟨p, h1, h2⟩⟩
      · exact absurd h1 (by decide)
      · have h1 : (0 : Int) = p := h1
        obtain rfl : p = 0 := by omega
        exact not_up (M := F3) (a := 0) (b := 2) (by decide) rfl (win_nat.2 h2)) (by decide)
  exact ⟨h.1, h.2.trans f4_doc⟩
theorem i_F4 : Inv 4 F4 := f4_ins.2 ▸ i_F3.ins 1 0 2
theorem f4_text : insE F4 2 0 1 = 111 ∧ insM F4 2 0 1 = F4 := ins_111 (by decide) (.inl ⟨by decide, by decide⟩)
theorem i_F5 : Inv 5 F5 := f5_doc ▸ i_F4.attr 1 bId bV
theorem i_F6 : Inv 5 F6 := f6_doc ▸ i_F5.clone 1
theorem f6_in : Win F6 2 0 := (win_nat (a := 2) (b := 0)).2 (.step (p := 1) (by decide) rfl (.step (p := 0) (by decide) rfl (.refl (by decide))))
theorem f6_out : ¬ Win F6 3 0 := not_up (M := F6) (a := 3) (b := 0) (by decide) rfl
/-- Rows freshly written down. -/
theorem rows_litA (w : World) (l : List Cw) (cs : Array Value) (n : Nat) (hn : l.length = n) (hm : n ≤ maxLen) (hcs : cs.toList = l.flatMap cells) (hl : ∀ x ∈ l, Att (w.alloc (.cells cs 47)) (w.alloc (.cells cs 47)).heap.size x ∧ Ap (w.alloc (.cells cs 47)) w.heap.size x) :
    Ow w.heap.size (w.alloc (.cells cs 47)) (.slice (some ⟨w.heap.size, 0, none⟩) n n) l := by
  have hfl : (l.flatMap cells).length = n * 5 := by
    rw [← hn]
    exact Ro.flat_len cells 5 len_cells l
  have hsz : cs.size = n * 5 := by rw [← Array.length_toList, hcs, hfl]
  refine ⟨⟨by rw [hn, hfl], .inr ⟨w.heap.size, n, cs, by rw [hn], Nat.le_refl _, heap_alloc_new w _, by rw [hn]; exact Nat.le_refl _, hm, hsz, ?_⟩⟩, hl⟩
  rw [hn, hcs, ← hfl, List.take_length]
def litL (g : Nat) : List Cw := [⟨rPa, some ⟨g, 0, none⟩, 1⟩, ⟨{ rT with depth := 1 }, none, 0⟩]
theorem lit_new (w : World) (cs : Array Value) (hcs : cs.toList = (litL w.heap.size).flatMap cells) :
    Rv ((w.alloc (.cells #[.string bId, .string bV] 62)).alloc (.cells cs 47)) (.slice (some ⟨w.heap.size + 1, 0, none⟩) 2 2) (litL w.heap.size) := by
  obtain ⟨w1, hw1⟩ : ∃ w1, w.alloc (.cells #[.string bId, .string bV] 62) = w1 := ⟨_, rfl⟩
  have hs1 : w1.heap.size = w.heap.size + 1 := by rw [← hw1]; simp
  have hg1 : w1.heap[w.heap.size]? = some (.cells #[.string bId, .string bV] 62) := hw1 ▸ heap_alloc_new w _
  have hlt : w.heap.size < w1.heap.size := by omega
  have hg2 : (w1.alloc (.cells cs 47)).heap[w.heap.size]? = some (.cells #[.string bId, .string bV] 62) := ((below_new w1 _).block _ hlt).trans hg1
  rw [hw1, ← hs1]
  refine (rows_litA w1 (litL w.heap.size) cs 2 rfl (by decide) hcs (fun x hx => ?_)).rv (fun x hx => ?_)
  · rcases List.mem_cons.1 hx with rfl | hx
    · refine ⟨⟨Nat.le_refl _, (fun h => by cases h), (by decide : (1 : Nat) ≤ maxLen), fun _ => ⟨w.heap.size, 0, rfl, by have := (below_new w1 (.cells cs 47)).size; omega, fun j hj => ?_⟩, fun a ha => ?_⟩, fun _ => ⟨w.heap.size, 0, rfl, .inl hlt⟩⟩
      · have hj0 : j = 0 := by
          have : j < 1 := hj
          omega
        subst hj0
        intro i u hu
        rw [cell_of_row _ w.heap.size (0 + 0 * 2 + i) _ _ _ hg2]
        match i, hu with
        | 0, hu => exact hu
        | 1, hu => exact hu
      · have ha : a ∈ [(⟨bId, bV⟩ : At)] := ha
        rw [List.mem_singleton.1 ha]
        exact (by decide : (2 : Nat) ≤ maxLen)
    · rw [List.mem_singleton.1 hx]
      exact ⟨att_none _ _ rfl, fun h => absurd h (by decide)⟩
  · have hx : x = rPa ∨ x = { rT with depth := 1 } := by
      have : x ∈ [rPa, ({ rT with depth := 1 } : Ro)] := hx
      simpa using this
    rcases hx with rfl | rfl
    · exact ⟨(by decide : (-9223372036854775808 : Int) ≤ 0), (by decide : (0 : Int) ≤ 9223372036854775807)⟩
    · exact ⟨(by decide : (-9223372036854775808 : Int) ≤ 1), (by decide : (1 : Int) ≤ 9223372036854775807)⟩
end Go.Proofs.Ytfnffplnoicjcaa.Ar

namespace Go.Proofs.Ytfnffplnoicjcaa.Ar
set_option maxRecDepth 100000
set_option linter.unusedSimpArgs false
set_option linter.unusedVariables false
open Go.RowKit Ba
open Ro (At Ro Cw ros Rr Ow Nw Fr Att Ap Sh Ra Rv Held cells acells below_new infoI info_row len_cells rowV rowO Few check right refSame1)
section
variable {w0 w : World} {p : Nat}
abbrev ptr (p : Nat) : Value := .pointer (some ⟨p, 0, none⟩)
theorem s_make {M M' : List Nd} {k : Int} {n d : ByteArray} {a b : Int} (S : One w0 w p M) (hm : M.length ≤ 5000) (hs : n.size ≤ 140737488355328) (h1 : makeE M k n d = (a, b)) (h2 : makeM M k n d = M') : Calls Try.prog 24 #[ptr p, .int .i64 k, .string n, .string d] w fun e w' => e = .returned (.tuple #[.int .i64 a, .int .i64 b]) ∧ One w0 w' p M' := by
  have h := S.make hm k n d hs
  rw [h1, h2] at h
  exact h
theorem s_ins {M M' : List Nd} {P A n : Int} {a : Int} (S : One w0 w p M) (W : Wf M) (hm : M.length ≤ 5000) (h : insE M P A n = a ∧ insM M P A n = M') : Calls Try.prog 11 #[ptr p, .int .i64 P, .int .i64 A, .int .i64 n] w fun e w' => e = .returned (.int .i64 a) ∧ One w0 w' p M' := by
  have h3 := S.insert W hm P A n
  rw [h.1, h.2] at h3
  exact h3
end
set_option maxRecDepth 100000 in
set_option maxHeartbeats 8000000 in
theorem fixed11 (w : World) : Calls Try.prog 10 #[] w fun e w' => e = .returned (.bool true) ∧ Below w.heap.size w w' := by
  go_enter Try.func10, Try.ntmps10
  go_wp2_with fail
  refine (One.new w w (Below.refl _ _)).mono ?_
  rintro e w1 ⟨p, rfl, S1⟩
  have H1 := Lib.hid (show Calls Try.prog 7 #[ptr p] w1 fun e w' => e = .returned (.int .i64 1) ∧ w' = w1 from S1.len)
  have H2 := Lib.hid (s_make S1 (by decide) (by decide) f1_ans f1_doc)
  clear S1
  go_wp2_with fail
  refine H1.out.mono ?_
  rintro e w1' ⟨rfl, rfl⟩
  go_wp2_with fail
  refine H2.out.mono ?_
  rintro e w2 ⟨rfl, S2⟩
  have H3 := Lib.hid (s_ins S2 i_F1.wf (by decide) f2_ins)
  clear S2 H1 H2
  go_wp2_with fail
  refine H3.out.mono ?_
  rintro e w3 ⟨rfl, S3⟩
  have H4 := Lib.hid (s_ins S3 i_F2.wf (by decide) f2_self)
  clear S3 H3
  go_wp2_with fail
  refine H4.out.mono ?_
  rintro e w4 ⟨rfl, S4⟩
  have H5 := Lib.hid (s_make S4 (by decide) (by decide) f3_ans f3_doc)
  clear S4 H4
  go_wp2_with fail
  refine H5.out.mono ?_
  rintro e w5 ⟨rfl, S5⟩
  have H6 := Lib.hid (s_ins S5 i_F3.wf (by decide) f4_ins)
  clear S5 H5
  go_wp2_with fail
  refine H6.out.mono ?_
  rintro e w6 ⟨rfl, S6⟩
  have H7 := Lib.hid (s_ins S6 i_F4.wf (by decide) f4_text)
  clear S6 H6
  go_wp2_with fail
  refine H7.out.mono ?_
  rintro e w7 ⟨rfl, S7⟩
  have h8 := S7.attr i_F4 (by decide) 1 bId bV (by decide)
  rw [f5_ans, f5_doc] at h8
  have H8 := Lib.hid h8
  clear S7 H7 h8
  go_wp2_with fail
  refine H8.out.mono ?_
  rintro e w8 ⟨rfl, S8⟩
  have h9 := S8.drop i_F5 (by decide) 1 bX
  rw [f5_drop, f5_dropM] at h9
  have H9 := Lib.hid h9
  clear S8 H8 h9
  go_wp2_with fail
  refine H9.out.mono ?_
  rintro e w9 ⟨rfl, S9⟩
  have h10 := S9.clone i_F5 (by decide) (by decide) 1
  rw [f6_ans, f6_doc] at h10
  have H10 := Lib.hid h10
  clear S9 H9 h10
  go_wp2_with fail
  refine H10.out.mono ?_
  rintro e w10 ⟨rfl, S10⟩
  have H11 := Lib.hid (s_make S10 (by decide) (by decide) f6_make f6_makeM)
  clear S10 H10
  go_wp2_with fail
  refine H11.out.mono ?_
  rintro e w11 ⟨rfl, S11⟩
  obtain ⟨w12, hw12⟩ : ∃ w12, (w11.alloc (.cells #[.string ⟨#[105, 100]⟩, .string ⟨#[118]⟩] 62)).alloc (.cells #[.int .i64 0, .int .i64 0, .string ⟨#[112]⟩, .string ⟨#[]⟩, .slice (some ⟨w11.heap.size, 0, none⟩) 1 1, .int .i64 1, .int .i64 1, .string ⟨#[]⟩, .string ⟨#[120]⟩, .slice none 0 0] 47) = w12 := ⟨_, rfl⟩
  have hlit : Rv w12 (.slice (some ⟨w11.heap.size + 1, 0, none⟩) 2 2) (litL w11.heap.size) := by
    rw [← hw12]
    exact lit_new w11 _ rfl
  have hb12 : Below w11.heap.size w11 w12 := hw12 ▸ bt (below_new w11 _) (below_new _ _)
  have S12 := S11.below hb12
  have HR0 := Lib.hid (S12.rows i_F6 (by decide) (by decide) 0)
  have HL := Lib.hid hlit; have HS := Lib.hid S12
  have HW12 := Lib.hid hw12
  clear S11 H11 hlit hb12 S12 hw12
  go_wp2_with fail
  rw [HW12.out]
  refine HR0.out.mono ?_
  rintro e w13 ⟨v0, l0, rfl, hv0, hr0, hl0, _, _, hb13⟩
  have S13 := HS.out.below hb13
  have HL13 := Lib.hid (HL.out.below hb13)
  have hlit0 : decide (ros l0 = ros (litL w11.heap.size)) = true := decide_eq_true (by rw [hr0, f6_rows0]; rfl)
  have HSA := Lib.hid (refSame1 v0 _ l0 (litL w11.heap.size) w13 true hv0 HL13.out (Nat.le_trans hl0 (by decide)) (show (2 : Nat) ≤ 1000000 by decide) hlit0)
  have HS13 := Lib.hid S13
  clear S13 hv0 hr0 hl0 hb13 hlit0 HR0
  go_wp2_with fail
  refine HSA.out.mono ?_
  rintro e w14 ⟨rfl, hb14⟩
  have S14 := HS13.out.below hb14
  have HL14 := Lib.hid (HL13.out.below hb14)
  have HR3 := Lib.hid (S14.rows i_F6 (by decide) (by decide) 3)
  have HS14 := Lib.hid S14
  clear S14 hb14 HSA
  go_wp2_with fail
  refine HR3.out.mono ?_
  rintro e w15 ⟨v3, l3, rfl, hv3, hr3, hl3, _, _, hb15⟩
  have S15 := HS14.out.below hb15
  have HL15 := Lib.hid (HL14.out.below hb15)
  have hlit3 : decide (ros l3 = ros (litL w11.heap.size)) = true := decide_eq_true (by rw [hr3, f6_rows3]; rfl)
  have HSB := Lib.hid (refSame1 v3 _ l3 (litL w11.heap.size) w15 true hv3 HL15.out (Nat.le_trans hl3 (by decide)) (show (2 : Nat) ≤ 1000000 by decide) hlit3)
  have HS15 := Lib.hid S15
  clear S15 hv3 hr3 hl3 hb15 hlit3 HR3
  go_wp2_with fail
  refine HSB.out.mono ?_
  rintro e w16 ⟨rfl, hb16⟩
  have S16 := HS15.out.below hb16
  have HP2 := Lib.hid (S16.parent 2 1 rfl)
  have HP3 := Lib.hid (S16.parent 3 (-1) rfl)
  have HI := Lib.hid (S16.within i_F6.wf (by decide) 2 0 true ⟨fun _ => f6_in, fun _ => rfl⟩)
  have HO := Lib.hid (S16.within i_F6.wf (by decide) 3 0 false ⟨fun h => (by cases h), fun h => absurd h f6_out⟩)
  have HRM := Lib.hid (S16.remove i_F6.wf (by decide) 0 110 rfl)
  clear S16 hb16 HSB
  go_wp2_with fail
  refine HP2.out.mono ?_
  rintro e w17 ⟨rfl, rfl⟩
  go_wp2_with fail
  refine HP3.out.mono ?_
  rintro e w17 ⟨rfl, rfl⟩
  go_wp2_with fail
  refine HI.out.mono ?_
  rintro e w17 ⟨rfl, rfl⟩
  go_wp2_with fail
  refine HO.out.mono ?_
  rintro e w17 ⟨rfl, rfl⟩
  go_wp2_with fail
  refine HRM.out.mono ?_
  rintro e w18 ⟨rfl, S18⟩
  have HS18 := Lib.hid S18.bel
  clear S18
  go_wp2
  go_ret
  exact ⟨rfl, HS18.out⟩
end Go.Proofs.Ytfnffplnoicjcaa.Ar

namespace Go.Proofs.Ytfnffplnoicjcaa.Ar
set_option maxRecDepth 100000
set_option linter.unusedSimpArgs false
set_option linter.unusedVariables false
open Go.RowKit Ba
open Ro (At Ro Cw ros Rr Ow Nw Fr Att Ap Sh Ra Rv Held cells acells below_new infoI info_row len_cells rowV rowO Few check right refSame1)
def ocells (o : Op11) : List Value := [.int .i64 o.kind, .int .i64 o.node, .int .i64 o.other, .int .i64 o.at_, .int .i64 o.what, .string o.name, .string o.value, .slice o.A o.x.length o.c]
/-- A value reads as a script, below block K. -/
def Script (w : World) (K : Nat) (v : Value) (os : List Op11) : Prop := ∃ A c, v = .slice A os.length c ∧ os.length ≤ c ∧ c ≤ maxLen ∧ (0 < os.length → ∃ b off, A = some ⟨b, off, none⟩ ∧ b < K ∧ ∀ j (h : j < os.length), w.rangeAt b (off + j * 8) (ocells os[j])) ∧ ∀ o ∈ os, OpOk w K o
theorem OpOk.below {w w' : World} {K : Nat} {o : Op11} (h : OpOk w K o) (hb : Below K w w') : OpOk w' K o := ⟨h.cap, h.rows.below hb, h.held, h.name, h.what⟩
theorem Doc11.mono {w : World} {N N' : Nat} {F : Nat → Prop} {p : Nat} {M : List Nd} (h : Doc11 w N F p M) (hN : N' ≤ N) : Doc11 w N' F p M := by
  obtain ⟨rk, gX, cX, gU, cU, gR, cR, lX, D⟩ := h
  exact ⟨rk, gX, cX, gU, cU, gR, cR, lX, D.box, World.ownsRow.mono D.rows hN, fun x hx => ⟨(D.attrs x hx).1.mono hN, (D.attrs x hx).2⟩, D.same, World.ownsRow.mono D.ups hN, World.ownsRow.mono D.ranks hN, D.apart, Nat.le_trans hN D.low, D.fp, D.fx, D.fu, D.fr, D.rf, D.bd⟩
theorem one_of {w0 w w' : World} {F' G G' : Nat → Prop} {p : Nat} {M' : List Nd} (hG : ∀ b, G b → w0.heap.size ≤ b) (hb : Below w0.heap.size w0 w) (D : Doc12 w' w0.heap.size F' p M') (n : Next w w' G G') (hs : ∀ b, F' b → G' b) : One w0 w' p M' := by
  have h1 := hb.size
  have h2 := n.1.size
  refine ⟨F', D, fun b h => ?_, ⟨n.1.os.trans hb.os, n.1.tape.trans hb.tape, n.1.output.trans hb.output, by omega, fun b h => (n.1.block b (by omega) fun hf => by have := hG b hf; omega).trans (hb.block b h)⟩⟩
  rcases n.2.2 b (hs b h) with h | h
  · exact hG b h
  · omega
set_option maxRecDepth 100000 in
set_option maxHeartbeats 8000000 in
theorem played11 (v : Value) (os : List Op11) (w : World) (S : Script w w.heap.size v os) : Calls Try.prog 4 #[v] w fun e w' => ∃ p M, e = .returned (ptr p) ∧ One w w' p M ∧ Inv 50 M ∧ M.length ≤ 612 := by
  obtain ⟨A, c, rfl, hc, hcm, hat, hok⟩ := S
  have HAT := Lib.hid hat; have HOK := Lib.hid hok
  clear hat hok
  go_enter Try.func4, Try.ntmps4
  go_wp2_with fail
  refine (One.new w w (Below.refl _ _)).mono ?_
  rintro e w1 ⟨p, rfl, S1⟩
  have HS1 := Lib.hid S1
  clear S1
  go_wp2
  go_loopw [4] (fun i wr => ∃ (j : Nat) (M : List Nd), i = .int .i64 j ∧ j ≤ 40 ∧ One w wr p M ∧ Inv (4 + j) M ∧ M.length ≤ 612) (fun i _ => 40 - (intOf i).toNat)
  case atStart => exact ⟨0, M0, rfl, by omega, HS1.out, i_M0, by decide⟩
  case round =>
    obtain ⟨j, M, rfl, hj, S, I, hm⟩ := hrel
    have HS := Lib.hid S; have HI := Lib.hid I; have HL := Lib.hid S.len
    clear S I
    by_cases h1 : j < os.length
    · by_cases h2 : j < 40
      · have hj1 : (j : Int) < os.length := by omega
        have hj2 : (j : Int) < 40 := by omega
        by_cases h3 : M.length < 300
        · have hm3 : (M.length : Int) < 300 := by omega
          obtain ⟨b, off, hA, hbl, hcell⟩ := HAT.out (by omega)
          subst hA
          obtain ⟨o, ho⟩ : ∃ o, os[j] = o := ⟨_, rfl⟩
          have hoo := HOK.out o (ho ▸ List.getElem_mem h1)
          have hbel := HS.out.bel
          have hk := fun i => (hbel.cell (p := ⟨b, off + j * 8 + i, none⟩) hbl)
          have d0 := (hk 0).trans (hcell j h1 0 _ rfl)
          have d1 := (hk 1).trans (hcell j h1 1 _ rfl)
          have d2 := (hk 2).trans (hcell j h1 2 _ rfl)
          have d3 := (hk 3).trans (hcell j h1 3 _ rfl)
          have d4 := (hk 4).trans (hcell j h1 4 _ rfl)
          have d5 := (hk 5).trans (hcell j h1 5 _ rfl)
          have d6 := (hk 6).trans (hcell j h1 6 _ rfl)
          have d7 := (hk 7).trans (hcell j h1 7 _ rfl)
          rw [ho] at d0 d1 d2 d3 d4 d5 d6 d7
          rw [Nat.add_zero] at d0
          have HOO := Lib.hid hoo
          have key : ∀ (wx wy : World) (p2 : Nat) (F2 : Nat → Prop), wx.heap = wr.heap → One w wx p M → Doc11 wy wx.heap.size F2 p2 M0 → Below wx.heap.size wx wy → (∀ b, F2 b → wx.heap.size ≤ b) → Calls Try.prog 15 #[ptr p, ptr p2, opV o] wy fun e w' => ∃ b, e = .returned (.bool b) ∧ One w w' p (opM M o) := fun wx wy p2 F2 hwx Sx D2 hb hl2 => by
            obtain ⟨F1, D1, hl1, hB1⟩ := Sx
            have hs1 := hB1.size
            have hs2 := hb.size
            have T : Two wy w.heap.size w.heap.size p p2 F1 F2 (4 + j) M M0 := ⟨D1.below hb, D2.mono hs1, fun b h1 h2 => by have := D1.bd b h1; have := hl2 b h2; omega, hl1, fun b h => Nat.le_trans hs1 (hl2 b h), HI.out, i_M0.more (by omega), by omega, by decide, by omega, by omega⟩
            have hby : Below w.heap.size w wy := bt hB1 hb
            refine (tells1 T (HOO.out.below hby)).mono ?_
            rintro e w' ⟨q, rfl, _, F1', F2', G1, _, _, n⟩
            exact ⟨q, rfl, one_of (fun b h => h.elim (hl1 b) fun h => Nat.le_trans hs1 (hl2 b h)) hby G1 n fun b h => .inl h⟩
          have HKEY := Lib.hid key
          clear hcell ho hoo hbel hk key
          go_wp2_with fail
          refine HL.out.mono ?_
          rintro e wr' ⟨rfl, rfl⟩
          have hblr : b < wr'.heap.size := by
            have := HS.out.bel.size
            omega
          have HOP := Lib.hid (HI.out.op (by omega) o); have HOL := Lib.hid (opM_len HI.out.wf o)
          go_wp2
          go_region_law (go_simp; first
            | (go_at_call 16; refine (refNew1 _).mono ?_; rintro en wn ⟨p2, F2, rfl, D2, hbn, hln⟩; have hbn' : Below wr'.heap.size wr' wn := ⟨hbn.os, hbn.tape, hbn.output, hbn.size, hbn.block⟩; have hlt := hblr; have e0 := (hbn'.cell (p := ⟨b, off + j * 8, none⟩) hlt).trans d0; have e1 := (hbn'.cell (p := ⟨b, off + j * 8 + 1, none⟩) hlt).trans d1; have e2 := (hbn'.cell (p := ⟨b, off + j * 8 + 2, none⟩) hlt).trans d2; have e3 := (hbn'.cell (p := ⟨b, off + j * 8 + 3, none⟩) hlt).trans d3; have e4 := (hbn'.cell (p := ⟨b, off + j * 8 + 4, none⟩) hlt).trans d4; have e5 := (hbn'.cell (p := ⟨b, off + j * 8 + 5, none⟩) hlt).trans d5; have e6 := (hbn'.cell (p := ⟨b, off + j * 8 + 6, none⟩) hlt).trans d6; have e7 := (hbn'.cell (p := ⟨b, off + j * 8 + 7, none⟩) hlt).trans d7; have HD2 := Lib.hid D2; have HBN := Lib.hid hbn'; have HLN := Lib.hid hln; clear D2 hbn hbn' hln)
            | (go_at_call 15; go_loud (refine (HKEY.out wr' wn p2 F2 rfl HS.out HD2.out HBN.out HLN.out).mono ?_; rintro et wt ⟨q, rfl, St⟩; have HST := Lib.hid St; clear St)))
          all_goals go_simp
          all_goals go_wp2_with fail
          all_goals go_roundw
          all_goals first
            | (have h5 := HOL.out; exact ⟨j + 1, opM M o, by go_num, by omega, HST.out, HOP.out, by omega⟩)
            | (simp [intOf]; try omega)
        · have hm3 : ¬ (M.length : Int) < 300 := by omega
          go_wp2_with fail
          refine HL.out.mono ?_
          rintro e wr' ⟨rfl, rfl⟩
          go_wp2
          go_ret
          first | exact ⟨p, M, rfl, HS.out, HI.out.more (by omega), hm⟩ | exact ⟨p, rfl, M, HS.out, HI.out.more (by omega), hm⟩
      · have hj1 : (j : Int) < os.length := by omega
        have hj2 : ¬ (j : Int) < 40 := by omega
        go_wp2
        go_ret
        first | exact ⟨p, M, rfl, HS.out, HI.out.more (by omega), hm⟩ | exact ⟨p, rfl, M, HS.out, HI.out.more (by omega), hm⟩
    · have hj1 : ¬ (j : Int) < os.length := by omega
      go_wp2
      go_ret
      first | exact ⟨p, M, rfl, HS.out, HI.out.more (by omega), hm⟩ | exact ⟨p, rfl, M, HS.out, HI.out.more (by omega), hm⟩
end Go.Proofs.Ytfnffplnoicjcaa.Ar

namespace Go.Proofs.Ytfnffplnoicjcaa.Ar
set_option maxRecDepth 100000
set_option linter.unusedSimpArgs false
set_option linter.unusedVariables false
open Go.RowKit Ba
open Ro (At Ro Cw ros Rr Ow Nw Fr Att Ap Sh Ra Rv Held cells acells below_new infoI info_row len_cells rowV rowO Few check right)
structure OneF (w0 w : World) (F : Nat → Prop) (p : Nat) (M : List Nd) : Prop where
  doc : Doc12 w w0.heap.size F p M
  low : ∀ b, F b → w0.heap.size ≤ b
  bel : Below w0.heap.size w0 w
def StepF (w0 w w' : World) (F : Nat → Prop) (p : Nat) (M' : List Nd) : Prop := ∃ F', OneF w0 w' F' p M' ∧ Next w w' F F'
section
variable {w0 w w' : World} {p : Nat} {M : List Nd} {F : Nat → Prop}
theorem One.of (S : One w0 w p M) : ∃ F, OneF w0 w F p M := by
  obtain ⟨F, D, hl, hB⟩ := S
  exact ⟨F, D, hl, hB⟩
theorem OneF.one (S : OneF w0 w F p M) : One w0 w p M := ⟨F, S.doc, S.low, S.bel⟩
theorem OneF.bd (S : OneF w0 w F p M) : ∀ b, F b → b < w.heap.size := S.doc.bd
theorem OneF.below (S : OneF w0 w F p M) (hb : Below w.heap.size w w') : OneF w0 w' F p M := ⟨S.doc.below hb, S.low, bt S.bel hb⟩
theorem step_of {M' : List Nd} {F' : Nat → Prop} (S : OneF w0 w F p M) (D : Doc12 w' w0.heap.size F' p M') (n : Next w w' F F') : StepF w0 w w' F p M' := by
  have hs := S.bel.size
  have hs' := n.1.size
  refine ⟨F', ⟨D, fun b h => ?_, ⟨n.1.os.trans S.bel.os, n.1.tape.trans S.bel.tape, n.1.output.trans S.bel.output, by omega, fun b h => (n.1.block b (by omega) fun hf => by have := S.low b hf; omega).trans (S.bel.block b h)⟩⟩, n⟩
  rcases n.2.2 b h with h | h
  · exact S.low b h
  · omega
theorem OneF.insert (S : OneF w0 w F p M) (W : Wf M) (hm : M.length ≤ 5000) (P A n a : Int) (M' : List Nd) (ha : insE M P A n = a) (hM : insM M P A n = M') : Calls Try.prog 11 #[ptr p, .int .i64 P, .int .i64 A, .int .i64 n] w fun e w' => e = .returned (.int .i64 a) ∧ StepF w0 w w' F p M' := by
  subst ha hM
  refine (insertP1 P A n w S.doc W hm).mono ?_
  rintro e w' ⟨rfl, F', D', N'⟩
  exact ⟨rfl, step_of S D' N'⟩
theorem OneF.remove (S : OneF w0 w F p M) (W : Wf M) (hm : M.length ≤ 5000) (n : Int) (q : Int) (M' : List Nd) (hq : (if 1 ≤ n ∧ n < M.length then (0 : Int) else 110) = q) (hM : remM M n = M') : Calls Try.prog 30 #[ptr p, .int .i64 n] w fun e w' => e = .returned (.int .i64 q) ∧ StepF w0 w w' F p M' := by
  subst hM
  refine (removeP1 n w S.doc W hm q hq).mono ?_
  rintro e w' ⟨rfl, F', D', N'⟩
  exact ⟨rfl, step_of S D' N'⟩
theorem OneF.clone {B : Nat} (S : OneF w0 w F p M) (I : Inv B M) (hB : B ≤ 1000000) (hm : M.length ≤ 1000) (n a b : Int) (M' : List Nd) (ha : cloneE M n = (a, b)) (hM : cloneM M n = M') : Calls Try.prog 27 #[ptr p, .int .i64 n] w fun e w' => e = .returned (.tuple #[.int .i64 a, .int .i64 b]) ∧ StepF w0 w w' F p M' := by
  subst hM
  have h := cloneP1 n w S.doc I.wf hm (I.few hB) (good_right I.wf I.good n)
  rw [ha] at h
  refine h.mono ?_
  rintro e w' ⟨rfl, F', D', N'⟩
  exact ⟨rfl, step_of S D' N'⟩
theorem OneF.attr {B : Nat} (S : OneF w0 w F p M) (I : Inv B M) (hB : B ≤ 1000000) (n : Int) (nm v : ByteArray) (hs : nm.size ≤ 140737488355328) (q : Int) (M' : List Nd) (hq : attrE11 M n nm = q) (hM : attrM11 M n nm v = M') : Calls Try.prog 25 #[ptr p, .int .i64 n, .string nm, .string v] w fun e w' => e = .returned (.int .i64 q) ∧ StepF w0 w w' F p M' := by
  subst hq hM
  refine (attrP1 n nm v w S.doc I.good (I.few hB) hs).mono ?_
  rintro e w' ⟨rfl, F', D', N'⟩
  exact ⟨rfl, step_of S D' N'⟩
theorem OneF.drop {B : Nat} (S : OneF w0 w F p M) (I : Inv B M) (hB : B ≤ 1000000) (n : Int) (nm : ByteArray) (q : Int) (M' : List Nd) (hq : dropE11 M n nm = q) (hM : dropM11 M n nm = M') : Calls Try.prog 26 #[ptr p, .int .i64 n, .string nm] w fun e w' => e = .returned (.int .i64 q) ∧ StepF w0 w w' F p M' := by
  subst hq hM
  refine (dropP1 n nm w S.doc I.good (I.few hB)).mono ?_
  rintro e w' ⟨rfl, F', D', N'⟩
  exact ⟨rfl, step_of S D' N'⟩
theorem OneF.data (S : OneF w0 w F p M) (n : Int) (d : ByteArray) (q : Int) (M' : List Nd) (hq : dataE M n = q) (hM : dataM M n d = M') : Calls Try.prog 46 #[ptr p, .int .i64 n, .string d] w fun e w' => e = .returned (.int .i64 q) ∧ StepF w0 w w' F p M' := by
  subst hq hM
  refine (dataP1 n d w S.doc).mono ?_
  rintro e w' ⟨rfl, F', D', N'⟩
  exact ⟨rfl, step_of S D' N'⟩
theorem OneF.make (S : OneF w0 w F p M) (hm : M.length ≤ 5000) (k : Int) (n d : ByteArray) (hs : n.size ≤ 140737488355328) (a b : Int) (M' : List Nd) (ha : makeE M k n d = (a, b)) (hM : makeM M k n d = M') : Calls Try.prog 24 #[ptr p, .int .i64 k, .string n, .string d] w fun e w' => e = .returned (.tuple #[.int .i64 a, .int .i64 b]) ∧ StepF w0 w w' F p M' := by
  subst hM
  have h := makeP1 k n d w S.doc hm hs
  rw [ha] at h
  refine h.mono ?_
  rintro e w' ⟨rfl, F', D', N'⟩
  exact ⟨rfl, step_of S D' N'⟩
/-- Rows that were made behind a document are kept while only that is touched. -/
theorem rows_kept {w1 w2 : World} {K : Nat} {v : Value} {l : List Cw} (h : Rv w1 v l) (ho : Ow K w1 v l) (hf : ∀ x ∈ l, Fr K w1 x) (hK : ∀ b, F b → b < K) (t : Touch F w1 w2) : Rv w2 v l := by
  obtain ⟨A, c, rfl, hc, hm, hr, hh⟩ := h
  refine rv_keep hr hc hm hh hf (fun b hb => ?_) hK t
  exact own_blk ho.1 hb
end
/-- The answer of Rows and Same. -/
theorem OneF.rows {w0 w : World} {p : Nat} {M : List Nd} {F : Nat → Prop} {B : Nat} (S : OneF w0 w F p M) (I : Inv B M) (hB : B ≤ 1000000) (hm : M.length ≤ 5000) (n : Int) : Calls Try.prog 6 #[ptr p, .int .i64 n] w fun e w' => ∃ v l, e = .returned v ∧ ros l = rowsM M n ∧ l.length ≤ 5000 ∧ OneF w0 w' F p M ∧ (∀ w2 F', Next w' w2 F F' → Rv w2 v l) ∧ Below w.heap.size w w' := by
  refine (S.one.rows I hB hm n).mono ?_
  rintro e w' ⟨v, l, rfl, hv, hr, hl, ho, hf, hb⟩
  exact ⟨v, l, rfl, hr, by omega, S.below hb, fun w2 F' n => rows_kept hv ho hf S.bd n.1, hb⟩
end Go.Proofs.Ytfnffplnoicjcaa.Ar

namespace Go.Proofs.Ytfnffplnoicjcaa.Ar
set_option linter.unusedSimpArgs false
set_option linter.unusedVariables false
open Go.RowKit Ba
open Ro (At Ro deeper okRow right rightFrom parent dep hasRow kids below endOf dep_at)
theorem rows_zero {M : List Nd} (W : Wf M) : rowsM M 0 = (nd M 0).kids.flatMap fun k => tr M k 0 := by
  have := W.pos
  unfold rowsM
  rw [if_pos (by omega), if_pos rfl]
end Go.Proofs.Ytfnffplnoicjcaa.Ar
