/-
  Stage 11: the reference's Attr.
  Stage 11: the reference's Drop.
  Stage 11, in plain words: what each call keeps of a document's nodes.
  Stage 11, in plain words: what a script's calls make of a document's nodes.
  Stage 11: the laws' trees, nums.
  Stage 11: slices of one's own that may be cut at their end; append onto such.
  Stage 11: the program's document in memory.
  Stage 11: what the program asks of its document: is there such a node, is it an element, how many others.
  Stage 11: lists copied; what is ahead of a place; lists with one more, without one.
-/
import Derived.Test.YtmlchbohijolaaaCk03
import Derived.Test.YtmlchbohijolaaaCk04
import Derived.Test.YtmlchbohijolaaaCk02
import Derived.ArgAppend
import Derived.Laws.AppendOwnNone
namespace Go.Proofs.Ytmlchbohijolaaa.Ar
set_option maxRecDepth 100000
set_option linter.unusedSimpArgs false
set_option linter.unusedVariables false
open Go.RowKit Ba
open Ro (At Ro Cw ros Rr Ow Nw Fr Att Ap Sh Ra cells acells app_num below_new infoI info_row len_cells rowV rowO Few Fits deeper deeper_zero Moved_any)
open To (Aw app_attr)
open Na (mayB)
/-! ### What Attr answers. -/
def atF (nm v : ByteArray) (a : At) : At := if a.name = nm then ⟨a.name, v⟩ else a
def putB (l : List At) (nm : ByteArray) : Bool := l.any fun a => decide (a.name = nm)
def atSet (l : List At) (nm v : ByteArray) : List At := if putB l nm then l.map (atF nm v) else l.map (atF nm v) ++ [(⟨nm, v⟩ : At)]
def attrE11 (M : List Nd) (n : Int) (nm : ByteArray) : Int := if elB11 M n then (if mayB nm true then 0 else 1) else 110
def attrM11 (M : List Nd) (n : Int) (nm v : ByteArray) : List Nd := if elB11 M n && mayB nm true then rowM M n.toNat fun r => { r with attrs := atSet r.attrs nm v } else M
theorem el_nat {M : List Nd} {n : Int} (h : elB11 M n = true) : ∃ k : Nat, n = k ∧ k < M.length ∧ k ≠ 0 ∧ (nd M k).ro.kind = 0 := by
  unfold elB11 at h
  rw [Bool.and_eq_true, Bool.and_eq_true] at h
  obtain ⟨⟨h1, h2⟩, h3⟩ := h
  have h1 := of_decide_eq_true h1
  have h2 := of_decide_eq_true h2
  have h3 := of_decide_eq_true h3
  exact ⟨n.toNat, by omega, by omega, by omega, h3⟩
theorem RD.cellAt {w : World} {N : Nat} {F : Nat → Prop} {p : Nat} {M : List Nd} {rk : List Int} {gX cX gU cU gR cR : Nat} {lX : List Cw} (h : RD w N F p M rk gX cX gU cU gR cR lX) {k : Nat} (hk : k < M.length) {x : Cw} (hx : lX[k]? = some x) : x.ro = (nd M k).ro ∧ Att w w.heap.size x ∧ ∀ j u, (cells x)[j]? = some u → w.cell? ⟨gX, k * 5 + j, none⟩ = some u := by
  obtain ⟨x', h0, h1, h2, h3⟩ := h.cellX hk
  rw [hx] at h0
  obtain rfl := Option.some.inj h0
  exact ⟨h1, h2, h3⟩
theorem att_at {w : World} {x : Cw} (h : Att w w.heap.size x) {j : Nat} (hj : j < x.ro.attrs.length) : ∃ b off, x.A = some ⟨b, off, none⟩ ∧ b < w.heap.size ∧ w.cell? ⟨b, off + j * 2, none⟩ = some (.string x.ro.attrs[j].name) ∧ w.cell? ⟨b, off + j * 2 + 1, none⟩ = some (.string x.ro.attrs[j].value) := by
  obtain ⟨b, off, hA, hb, hc⟩ := h.2.2.2.1 (by omega)
  refine ⟨b, off, hA, hb, ?_, ?_⟩
  · exact hc j hj 0 _ rfl
  · exact hc j hj 1 _ rfl
theorem putB_take {l : List At} {nm : ByteArray} {j : Nat} (hj : j < l.length) : putB (l.take (j + 1)) nm = (putB (l.take j) nm || decide (l[j].name = nm)) := by
  unfold putB
  rw [List.take_add_one, List.getElem?_eq_getElem hj, List.any_append]
  simp
set_option maxRecDepth 100000 in
set_option maxHeartbeats 4000000 in
theorem refAttr11 {p N : Nat} {F : Nat → Prop} {M : List Nd} (n : Int) (nm v : ByteArray) (w : World) (D : Doc11 w N F p M) (W : Wf M) (hm : M.length ≤ 5000) (hf : Few (M.map Nd.ro)) (hs : nm.size ≤ 140737488355328) :
    Calls Try.prog 53 #[.pointer (some ⟨p, 0, none⟩), .int .i64 n, .string nm, .string v] w fun e w' => e = .returned (.int .i64 (attrE11 M n nm)) ∧ ∃ F', Doc11 w' N F' p (attrM11 M n nm v) ∧ Next w w' F F' := by
  have D0 := Lib.hid D
  obtain ⟨rk, gX, cX, gU, cU, gR, cR, lX, D⟩ := D
  have HEL := Lib.hid (refElement1 n w D)
  have HD := Lib.hid D
  have hx := D.rd.x
  have hmay := Na.may_any nm true w hs
  obtain ⟨q, hq⟩ : ∃ q, mayB nm true = q := ⟨_, rfl⟩
  rw [hq] at hmay
  have HM := Lib.hid hmay
  clear hmay D
  unfold attrE11 attrM11
  rw [hq]
  cases he : elB11 M n with
  | false =>
    rw [he] at HEL
    clear he hq
    go_enter Try.func53, Try.ntmps53
    go_wp2_with fail
    refine HEL.out.mono ?_
    rintro e w1 ⟨rfl, rfl⟩
    go_wp2
    go_ret
    exact ⟨rfl, F, D0.out, Next.refl w F⟩
  | true =>
  cases q with
  | false =>
    rw [he] at HEL
    clear he hq
    go_enter Try.func53, Try.ntmps53
    go_wp2_with fail
    refine HEL.out.mono ?_
    rintro e w1 ⟨rfl, rfl⟩
    go_wp2_with fail
    refine HM.out.mono ?_
    rintro e w1 ⟨rfl, rfl⟩
    go_wp2
    go_ret
    exact ⟨rfl, F, D0.out, Next.refl w F⟩
  | true =>
    rw [he] at HEL
    obtain ⟨k, rfl, hk, hk0, _⟩ := el_nat he
    obtain ⟨x, hxk, hxr, hxa, _⟩ := HD.out.cellX hk
    obtain ⟨l, hl⟩ : ∃ l, x.ro.attrs = l := ⟨_, rfl⟩
    have hll : l.length ≤ 1000000 := by
      rw [← hl, hxr, nd_at hk]
      exact hf _ (List.mem_map.2 ⟨_, List.getElem_mem hk, rfl⟩)
    have hsh : Sh l := hl ▸ hxa.2.2.2.2
    have HL := Lib.hid hl; have HXK := Lib.hid hxk; have HXR := Lib.hid hxr; have HSH := Lib.hid hsh
    have hki : (k : Int) < M.length := by omega
    clear he hq hxk hxr hxa hsh hl
    go_enter Try.func53, Try.ntmps53
    go_wp2_with fail
    refine HEL.out.mono ?_
    rintro e w1 ⟨rfl, rfl⟩
    go_wp2_with fail
    refine HM.out.mono ?_
    rintro e w1 ⟨rfl, rfl⟩
    go_wp2
    go_loopw [9, 10, 11] (fun uv pv i wr => ∃ (lv : Value) (j : Nat), lv = uv ∧ i = .int .i64 j ∧ j ≤ l.length ∧ pv = .bool (putB (l.take j) nm) ∧ Aw w.heap.size wr lv ((l.take j).map (atF nm v)) ∧ Below w.heap.size w wr) (fun _ _ i _ => l.length - (intOf i).toNat)
    case atStart => exact ⟨_, 0, rfl, rfl, Nat.zero_le _, rfl, ⟨World.ownsRow_made w #[] 0 (Nat.le_refl _) (Nat.zero_le _) rfl, fun x hx => by cases hx⟩, below_new w _⟩
    case round =>
      obtain ⟨lv, j, rfl, rfl, hj, rfl, haw, hbel⟩ := hrel
      have D1 := HD.out.below hbel
      obtain ⟨_, hxa, hxc⟩ := D1.cellAt hk HXK.out
      have hx1 := D1.rd.x
      have hck := hxc 4 _ rfl
      rw [HL.out] at hck
      by_cases hjl : j < l.length
      · obtain ⟨b, off, hA, hbl, hn0, hv0⟩ := att_at hxa (j := j) (by rw [HL.out]; exact hjl)
        rw [hA] at hck
        have hgt : x.ro.attrs[j]'(by rw [HL.out]; exact hjl) = l[j] := by simp [HL.out]
        rw [hgt] at hn0 hv0
        obtain ⟨a, ha⟩ : ∃ a, l[j] = a := ⟨_, rfl⟩
        rw [ha] at hn0 hv0
        have hji : (j : Int) < l.length := by omega
        have hpt := putB_take (nm := nm) hjl
        rw [ha] at hpt
        have hmt : ((l.take (j + 1)).map (atF nm v)) = (l.take j).map (atF nm v) ++ [atF nm v a] := by
          rw [List.take_add_one, List.getElem?_eq_getElem hjl, ha]
          simp
        have hash : a.name.size ≤ maxLen := HSH.out a (ha ▸ List.getElem_mem hjl)
        have HPT := Lib.hid hpt; have HMT := Lib.hid hmt; have HAS := Lib.hid hash; have HAW := Lib.hid haw; have HBE := Lib.hid hbel
        clear hxa hxc hA hgt ha hpt hmt hash D1 haw hbel
        by_cases hnm : a.name = nm
        · have hd : (a.name.toList == nm.toList) = true := by rw [eq_of_toList]; exact decide_eq_true hnm
          have hat : atF nm v a = ⟨a.name, v⟩ := by unfold atF; rw [if_pos hnm]
          have HAT := Lib.hid hat
          have HA2 := Lib.hid (HAW.out.alloc (.cells #[.string a.name, .string v] 63))
          have hlm : ((l.take j).map (atF nm v)).length ≤ 4000000000 := by rw [List.length_map, List.length_take]; omega
          have hsz2 : w.heap.size ≤ (wr.alloc (.cells #[.string a.name, .string v] 63)).heap.size := by have := HBE.out.size; simp; omega
          have HBW := Lib.hid (bt HBE.out (below_new wr (.cells #[.string a.name, .string v] 63)))
          have HNM := Lib.hid hnm
          clear hat hnm
          go_wp2_with (at_builtin; go_loud (refine app_attr (wr.alloc (.cells #[.string a.name, .string v] 63)) rfl (.tmp 52) (.tmp 54) rfl w.heap.size lv ((l.take j).map (atF nm v)) ⟨a.name, v⟩ rfl HA2.out HAS.out (wr.heap.size + 1) (by simp) rfl hlm hsz2 ?_); intro v7 w7 hw7 hg7; have HW7 := Lib.hid hw7; have HG7 := Lib.hid hg7; clear hw7 hg7)
          go_roundw
          case rel =>
            refine ⟨v7, j + 1, rfl, by go_num, by omega, ?_, by rw [HMT.out, HAT.out]; exact HW7.out, HBW.out.grown HG7.out hsz2 fun b hb => (World.ownsRow.lt HA2.out.1 b hb).1⟩
            rw [HPT.out]
            simp [HNM.out]
          case measure => (simp [intOf]; try omega)
        · have hd : (a.name.toList == nm.toList) = false := by rw [eq_of_toList]; exact decide_eq_false hnm
          have hat : atF nm v a = a := by unfold atF; rw [if_neg hnm]
          have HAT := Lib.hid hat
          have HA2 := Lib.hid (HAW.out.alloc (.cells #[.string a.name, .string a.value] 63))
          have hlm : ((l.take j).map (atF nm v)).length ≤ 4000000000 := by rw [List.length_map, List.length_take]; omega
          have hsz2 : w.heap.size ≤ (wr.alloc (.cells #[.string a.name, .string a.value] 63)).heap.size := by have := HBE.out.size; simp; omega
          have HBW := Lib.hid (bt HBE.out (below_new wr (.cells #[.string a.name, .string a.value] 63)))
          have HNM := Lib.hid hnm
          clear hat hnm
          go_wp2_with (at_builtin; refine app_attr (wr.alloc (.cells #[.string a.name, .string a.value] 63)) rfl (.tmp 52) (.tmp 54) rfl w.heap.size lv ((l.take j).map (atF nm v)) a rfl HA2.out HAS.out (wr.heap.size + 1) (by simp) rfl hlm hsz2 ?_; intro v7 w7 hw7 hg7; have HW7 := Lib.hid hw7; have HG7 := Lib.hid hg7; clear hw7 hg7)
          go_roundw
          case rel =>
            refine ⟨v7, j + 1, rfl, by go_num, by omega, ?_, by rw [HMT.out, HAT.out]; exact HW7.out, HBW.out.grown HG7.out hsz2 fun b hb => (World.ownsRow.lt HA2.out.1 b hb).1⟩
            rw [HPT.out]
            simp [HNM.out]
          case measure => (simp [intOf]; try omega)
      · obtain rfl : j = l.length := by omega
        rw [List.take_length] at haw
        have HAW := Lib.hid haw; have HBE := Lib.hid hbel
        have hlm : (l.map (atF nm v)).length ≤ 4000000000 := by rw [List.length_map]; omega
        have hszr := HBE.out.size
        rw [List.take_length]
        clear hxa hxc D1 haw hbel
        cases hpb : putB l nm with
        | true =>
          have HSET := Lib.hid (show l.map (atF nm v) = atSet l nm v by unfold atSet; rw [if_pos hpb])
          clear hpb
          go_upto_region 16 with (fail)
          obtain ⟨wc, hwc⟩ : ∃ wc, wc = wr := ⟨_, rfl⟩
          subst hwc
          have HAWc := HAW; have HBc := HBE
          obtain ⟨A9, c9, hv9⟩ := HAWc.out.form
          obtain ⟨L9, hL9⟩ : ∃ L9, (l.map (atF nm v)).length = L9 := ⟨_, rfl⟩
          rw [hL9] at hv9
          subst hv9
          have HMV := Lib.hid (moved_doc wc (HD.out.below HBc.out) W hm hf)
          have hxw := (HD.out.below HBc.out).rd.x
          go_wp2_with fail
          refine HMV.out.mono ?_
          rintro e w1 ⟨g, c, l', rfl, hg, ho, hfr, hr, hlen, hb⟩
          have hszc := HBc.out.size
          have hkl : k < l'.length := by omega
          have hcell : w1.cell? ⟨g, k * 5 + 4, none⟩ = some (.slice l'[k].A l'[k].ro.attrs.length l'[k].c) ∧ w1.frozen? ⟨g, k * 5 + 4, none⟩ = false := by
            refine ⟨?_, World.ownsRow.frozenAt ho _⟩
            rw [World.ownsRow.cellAt ho _ (by omega), Ro.flat_at cells 5 Ro.len_cells _ _ _ hkl (by decide)]
            rfl
          obtain ⟨hcell, hfz⟩ := hcell
          obtain ⟨y, hy⟩ : ∃ y : Cw, y = ⟨{ l'[k].ro with attrs := l.map (atF nm v) }, A9, c9⟩ := ⟨_, rfl⟩
          have hyc : cells y = (cells l'[k]).set 4 (.slice A9 L9 c9) := by rw [hy, ← hL9]; rfl
          have hyr : y.ro = (fun r : Ro => { r with attrs := atSet r.attrs nm v }) (nd M k).ro := by
            rw [hy]
            have h0 : (ros l')[k]? = (M.map Nd.ro)[k]? := by rw [hr]
            unfold ros at h0
            rw [List.getElem?_map, List.getElem?_map, List.getElem?_eq_getElem hkl, List.getElem?_eq_getElem hk] at h0
            have h1 : l'[k].ro = (nd M k).ro := by rw [nd_at hk]; exact Option.some.inj h0
            have h2 : (nd M k).ro.attrs = l := by rw [← HXR.out]; exact HL.out
            show (⟨l'[k].ro.depth, l'[k].ro.kind, l'[k].ro.name, l'[k].ro.data, l.map (atF nm v)⟩ : Ro) = ⟨(nd M k).ro.depth, (nd M k).ro.kind, (nd M k).ro.name, (nd M k).ro.data, atSet (nd M k).ro.attrs nm v⟩
            rw [h1, h2, HSET.out]
          have ho' := World.ownsRow.mono ho hszc
          have hfr' : ∀ x ∈ l', Fr w.heap.size w1 x := fun x hx => (hfr x hx).mono hszc
          obtain ⟨s1, s2⟩ := row_stored ho' hfr' hkl (by decide) (.slice A9 L9 c9) hyc
          have hfy : Fr w.heap.size w1 y := by
            have h9 := HAWc.out
            rw [← hL9] at h9
            rw [hy]
            exact ⟨owns_block h9.1 fun b hb' => hb.block b (owns_lt h9.1 hb').2.1, h9.2⟩
          have hfr2 : ∀ x ∈ l'.set k y, Fr w.heap.size (w1.setCell ⟨g, k * 5 + 4, none⟩ (.slice A9 L9 c9)) x := fun x hx => by
            rcases List.mem_or_eq_of_mem_set hx with hx | rfl
            · exact s2 x (hfr' x hx)
            · exact s2 _ hfy
          have hb2 := (bt HBc.out hb).setCell (p := ⟨g, k * 5 + 4, none⟩) (by show w.heap.size ≤ g; omega) (.slice A9 L9 c9)
          have D2 := HD.out.below hb2
          have hp2 := D2.rd.x
          have hpf := box_frozen D2.box 0
          have KEY := Lib.hid (HD.out.newRow (f := fun r => { r with attrs := atSet r.attrs nm v }) (by omega) hk hyr s1 hfr2 hr hb2)
          clear s1 s2 hfr2 hb2 D2 hyc hyr hy ho hfr hr hb HMV hfy ho' hfr' hL9
          go_wp2
          go_ret
          obtain ⟨F', h3, h4⟩ := KEY.out
          exact ⟨rfl, F', h3, h4⟩
        | false =>
          have HSET := Lib.hid (show l.map (atF nm v) ++ [(⟨nm, v⟩ : At)] = atSet l nm v by unfold atSet; rw [if_neg (by rw [hpb]; decide)])
          have hnz : (⟨nm, v⟩ : At).name.size ≤ maxLen := by
            show nm.size ≤ maxLen
            unfold maxLen
            omega
          clear hpb
          go_upto_region 16 with (at_builtin; refine app_attr wr rfl (.tmp 58) (.tmp 62) rfl w.heap.size lv (l.map (atF nm v)) ⟨nm, v⟩ rfl HAW.out hnz _ rfl rfl hlm hszr ?_; intro v9 wc hw9 hg9; have HAWc := Lib.hid hw9; have HBc := Lib.hid (HBE.out.grown hg9 hszr fun b hb => (World.ownsRow.lt HAW.out.1 b hb).1); clear hw9 hg9)
          obtain ⟨A9, c9, hv9⟩ := HAWc.out.form
          obtain ⟨L9, hL9⟩ : ∃ L9, (l.map (atF nm v) ++ [(⟨nm, v⟩ : At)]).length = L9 := ⟨_, rfl⟩
          rw [hL9] at hv9
          subst hv9
          have HMV := Lib.hid (moved_doc wc (HD.out.below HBc.out) W hm hf)
          have hxw := (HD.out.below HBc.out).rd.x
          go_wp2_with fail
          refine HMV.out.mono ?_
          rintro e w1 ⟨g, c, l', rfl, hg, ho, hfr, hr, hlen, hb⟩
          have hszc := HBc.out.size
          have hkl : k < l'.length := by omega
          have hcell : w1.cell? ⟨g, k * 5 + 4, none⟩ = some (.slice l'[k].A l'[k].ro.attrs.length l'[k].c) ∧ w1.frozen? ⟨g, k * 5 + 4, none⟩ = false := by
            refine ⟨?_, World.ownsRow.frozenAt ho _⟩
            rw [World.ownsRow.cellAt ho _ (by omega), Ro.flat_at cells 5 Ro.len_cells _ _ _ hkl (by decide)]
            rfl
          obtain ⟨hcell, hfz⟩ := hcell
          obtain ⟨y, hy⟩ : ∃ y : Cw, y = ⟨{ l'[k].ro with attrs := l.map (atF nm v) ++ [(⟨nm, v⟩ : At)] }, A9, c9⟩ := ⟨_, rfl⟩
          have hyc : cells y = (cells l'[k]).set 4 (.slice A9 L9 c9) := by rw [hy, ← hL9]; rfl
          have hyr : y.ro = (fun r : Ro => { r with attrs := atSet r.attrs nm v }) (nd M k).ro := by
            rw [hy]
            have h0 : (ros l')[k]? = (M.map Nd.ro)[k]? := by rw [hr]
            unfold ros at h0
            rw [List.getElem?_map, List.getElem?_map, List.getElem?_eq_getElem hkl, List.getElem?_eq_getElem hk] at h0
            have h1 : l'[k].ro = (nd M k).ro := by rw [nd_at hk]; exact Option.some.inj h0
            have h2 : (nd M k).ro.attrs = l := by rw [← HXR.out]; exact HL.out
            show (⟨l'[k].ro.depth, l'[k].ro.kind, l'[k].ro.name, l'[k].ro.data, l.map (atF nm v) ++ [(⟨nm, v⟩ : At)]⟩ : Ro) = ⟨(nd M k).ro.depth, (nd M k).ro.kind, (nd M k).ro.name, (nd M k).ro.data, atSet (nd M k).ro.attrs nm v⟩
            rw [h1, h2, HSET.out]
          have ho' := World.ownsRow.mono ho hszc
          have hfr' : ∀ x ∈ l', Fr w.heap.size w1 x := fun x hx => (hfr x hx).mono hszc
          obtain ⟨s1, s2⟩ := row_stored ho' hfr' hkl (by decide) (.slice A9 L9 c9) hyc
          have hfy : Fr w.heap.size w1 y := by
            have h9 := HAWc.out
            rw [← hL9] at h9
            rw [hy]
            exact ⟨owns_block h9.1 fun b hb' => hb.block b (owns_lt h9.1 hb').2.1, h9.2⟩
          have hfr2 : ∀ x ∈ l'.set k y, Fr w.heap.size (w1.setCell ⟨g, k * 5 + 4, none⟩ (.slice A9 L9 c9)) x := fun x hx => by
            rcases List.mem_or_eq_of_mem_set hx with hx | rfl
            · exact s2 x (hfr' x hx)
            · exact s2 _ hfy
          have hb2 := (bt HBc.out hb).setCell (p := ⟨g, k * 5 + 4, none⟩) (by show w.heap.size ≤ g; omega) (.slice A9 L9 c9)
          have D2 := HD.out.below hb2
          have hp2 := D2.rd.x
          have hpf := box_frozen D2.box 0
          have KEY := Lib.hid (HD.out.newRow (f := fun r => { r with attrs := atSet r.attrs nm v }) (by omega) hk hyr s1 hfr2 hr hb2)
          clear s1 s2 hfr2 hb2 D2 hyc hyr hy ho hfr hr hb HMV hfy ho' hfr' hL9
          go_wp2
          go_ret
          obtain ⟨F', h3, h4⟩ := KEY.out
          exact ⟨rfl, F', h3, h4⟩
end Go.Proofs.Ytmlchbohijolaaa.Ar

namespace Go.Proofs.Ytmlchbohijolaaa.Ar
set_option maxRecDepth 100000
set_option linter.unusedSimpArgs false
set_option linter.unusedVariables false
open Go.RowKit Ba
open Ro (At Ro Cw ros Rr Ow Nw Fr Att Ap Sh Ra cells acells app_num below_new infoI info_row len_cells rowV rowO Few Fits deeper deeper_zero Moved_any)
open To (Aw app_attr)
/-! ### What Drop answers. -/
def dropL (l : List At) (nm : ByteArray) : List At := l.filter fun a => !decide (a.name = nm)
def dropE11 (M : List Nd) (n : Int) (nm : ByteArray) : Int := if elB11 M n then (if (dropL (nd M n.toNat).ro.attrs nm).length = (nd M n.toNat).ro.attrs.length then 1 else 0) else 110
def dropM11 (M : List Nd) (n : Int) (nm : ByteArray) : List Nd := if elB11 M n && !decide ((dropL (nd M n.toNat).ro.attrs nm).length = (nd M n.toNat).ro.attrs.length) then rowM M n.toNat fun r => { r with attrs := dropL r.attrs nm } else M
theorem dropL_take {l : List At} {nm : ByteArray} {j : Nat} (hj : j < l.length) : dropL (l.take (j + 1)) nm = if l[j].name = nm then dropL (l.take j) nm else dropL (l.take j) nm ++ [l[j]] := by
  unfold dropL
  rw [List.take_add_one, List.getElem?_eq_getElem hj, List.filter_append]
  by_cases h : l[j].name = nm
  · simp [h]
  · simp [h]
set_option maxRecDepth 100000 in
set_option maxHeartbeats 4000000 in
theorem refDrop11 {p N : Nat} {F : Nat → Prop} {M : List Nd} (n : Int) (nm : ByteArray) (w : World) (D : Doc11 w N F p M) (W : Wf M) (hm : M.length ≤ 5000) (hf : Few (M.map Nd.ro)) :
    Calls Try.prog 54 #[.pointer (some ⟨p, 0, none⟩), .int .i64 n, .string nm] w fun e w' => e = .returned (.int .i64 (dropE11 M n nm)) ∧ ∃ F', Doc11 w' N F' p (dropM11 M n nm) ∧ Next w w' F F' := by
  have D0 := Lib.hid D
  obtain ⟨rk, gX, cX, gU, cU, gR, cR, lX, D⟩ := D
  have HEL := Lib.hid (refElement1 n w D)
  have HD := Lib.hid D
  have hx := D.rd.x
  clear D
  unfold dropE11 dropM11
  cases he : elB11 M n with
  | false =>
    rw [he] at HEL
    clear he
    go_enter Try.func54, Try.ntmps54
    go_wp2_with fail
    refine HEL.out.mono ?_
    rintro e w1 ⟨rfl, rfl⟩
    go_wp2
    go_ret
    exact ⟨rfl, F, D0.out, Next.refl w F⟩
  | true =>
    rw [he] at HEL
    obtain ⟨k, rfl, hk, hk0, _⟩ := el_nat he
    obtain ⟨x, hxk, hxr, hxa, _⟩ := HD.out.cellX hk
    obtain ⟨l, hl⟩ : ∃ l, x.ro.attrs = l := ⟨_, rfl⟩
    have hll : l.length ≤ 1000000 := by
      rw [← hl, hxr, nd_at hk]
      exact hf _ (List.mem_map.2 ⟨_, List.getElem_mem hk, rfl⟩)
    have hsh : Sh l := hl ▸ hxa.2.2.2.2
    have hla : (nd M (k : Int).toNat).ro.attrs = l := by rw [← hl, hxr]; rfl
    rw [hla, Bool.true_and, if_pos rfl]
    obtain ⟨E, hE⟩ : ∃ E : Int, (if (dropL l nm).length = l.length then (1 : Int) else 0) = E := ⟨_, rfl⟩
    obtain ⟨MM, hMM⟩ : ∃ MM, (if (!decide ((dropL l nm).length = l.length)) = true then rowM M (k : Int).toNat fun r => { r with attrs := dropL r.attrs nm } else M) = MM := ⟨_, rfl⟩
    rw [hE, hMM]
    have HE := Lib.hid hE; have HMM := Lib.hid hMM
    clear hE hMM
    have HL := Lib.hid hl; have HXK := Lib.hid hxk; have HXR := Lib.hid hxr; have HSH := Lib.hid hsh
    have hki : (k : Int) < M.length := by omega
    clear he hxk hxr hxa hsh hl hla
    go_enter Try.func54, Try.ntmps54
    go_wp2_with fail
    refine HEL.out.mono ?_
    rintro e w1 ⟨rfl, rfl⟩
    go_wp2
    go_loopw [7, 8] (fun uv i wr => ∃ (lv : Value) (j : Nat), lv = uv ∧ i = .int .i64 j ∧ j ≤ l.length ∧ Aw w.heap.size wr lv (dropL (l.take j) nm) ∧ Below w.heap.size w wr) (fun _ i _ => l.length - (intOf i).toNat)
    case atStart => exact ⟨_, 0, rfl, rfl, Nat.zero_le _, ⟨World.ownsRow_made w #[] 0 (Nat.le_refl _) (Nat.zero_le _) rfl, fun x hx => by cases hx⟩, below_new w _⟩
    case round =>
      obtain ⟨lv, j, rfl, rfl, hj, haw, hbel⟩ := hrel
      have D1 := HD.out.below hbel
      obtain ⟨_, hxa, hxc⟩ := D1.cellAt hk HXK.out
      have hx1 := D1.rd.x
      have hck := hxc 4 _ rfl
      rw [HL.out] at hck
      by_cases hjl : j < l.length
      · obtain ⟨b, off, hA, hbl, hn0, hv0⟩ := att_at hxa (j := j) (by rw [HL.out]; exact hjl)
        rw [hA] at hck
        have hgt : x.ro.attrs[j]'(by rw [HL.out]; exact hjl) = l[j] := by simp [HL.out]
        rw [hgt] at hn0 hv0
        have hdt := dropL_take (nm := nm) hjl
        obtain ⟨a, ha⟩ : ∃ a, l[j] = a := ⟨_, rfl⟩
        rw [ha] at hn0 hv0 hdt
        have hji : (j : Int) < l.length := by omega
        have hash : a.name.size ≤ maxLen := HSH.out a (ha ▸ List.getElem_mem hjl)
        have hlm : (dropL (l.take j) nm).length ≤ 4000000000 := by
          have := List.length_filter_le (fun a : At => !decide (a.name = nm)) (l.take j)
          rw [List.length_take] at this
          unfold dropL
          omega
        have hszr := hbel.size
        have HAS := Lib.hid hash; have HAW := Lib.hid haw; have HBE := Lib.hid hbel
        clear hxa hxc hA hgt ha hash D1 haw hbel
        by_cases hnm : a.name = nm
        · have hd : (a.name.toList == nm.toList) = true := by rw [eq_of_toList]; exact decide_eq_true hnm
          rw [if_pos hnm] at hdt
          have HDT := Lib.hid hdt
          clear hdt hnm
          go_wp2
          go_roundw
          case rel => exact ⟨lv, j + 1, rfl, by go_num, by omega, by rw [HDT.out]; exact HAW.out, HBE.out⟩
          case measure => (simp [intOf]; try omega)
        · have hd : (a.name.toList == nm.toList) = false := by rw [eq_of_toList]; exact decide_eq_false hnm
          rw [if_neg hnm] at hdt
          have HDT := Lib.hid hdt
          clear hdt hnm
          go_wp2_with (at_builtin; go_loud (refine app_attr wr rfl (.tmp 42) (.tmp 54) rfl w.heap.size lv (dropL (l.take j) nm) a rfl HAW.out HAS.out _ rfl rfl hlm hszr ?_); intro v7 w7 hw7 hg7; have HW7 := Lib.hid hw7; have HG7 := Lib.hid hg7; clear hw7 hg7)
          go_roundw
          case rel => exact ⟨v7, j + 1, rfl, by go_num, by omega, by rw [HDT.out]; exact HW7.out, HBE.out.grown HG7.out hszr fun b hb => (World.ownsRow.lt HAW.out.1 b hb).1⟩
          case measure => (simp [intOf]; try omega)
      · obtain rfl : j = l.length := by omega
        rw [List.take_length] at haw
        have HAWc := Lib.hid haw; have HBc := Lib.hid hbel
        clear hxa hxc D1 haw hbel
        obtain ⟨wc, hwc⟩ : ∃ wc, wc = wr := ⟨_, rfl⟩
        subst hwc
        obtain ⟨A9, c9, hv9⟩ := HAWc.out.form
        obtain ⟨L9, hL9⟩ : ∃ L9, (dropL l nm).length = L9 := ⟨_, rfl⟩
        rw [hL9] at hv9
        subst hv9
        by_cases hLl : L9 = l.length
        · have HLl := Lib.hid hLl
          have hE := HE.out; have hMM := HMM.out
          rw [hL9, if_pos hLl] at hE
          rw [hL9, if_neg (by simp [hLl])] at hMM
          subst hE hMM
          have hLi : (L9 : Int) = l.length := by omega
          have hLb : ((L9 : Int) == (l.length : Int)) = true := beq_iff_eq.2 hLi
          clear hLl
          go_wp2
          go_ret
          exact ⟨rfl, F, D0.out.below HBc.out, Next.of_below HBc.out⟩
        · have hE := HE.out; have hMM := HMM.out
          rw [hL9, if_neg hLl] at hE
          rw [hL9, if_pos (by simp [hLl])] at hMM
          subst hE hMM
          have hLi : ¬ (L9 : Int) = l.length := by omega
          have hLb : ((L9 : Int) == (l.length : Int)) = false := beq_eq_false_iff_ne.2 hLi
          have HMV := Lib.hid (moved_doc wc (HD.out.below HBc.out) W hm hf)
          have hxw := (HD.out.below HBc.out).rd.x
          go_wp2_with fail
          refine HMV.out.mono ?_
          rintro e w1 ⟨g, c, l', rfl, hg, ho, hfr, hr, hlen, hb⟩
          have hszc := HBc.out.size
          have hkl : k < l'.length := by omega
          have hcell : w1.cell? ⟨g, k * 5 + 4, none⟩ = some (.slice l'[k].A l'[k].ro.attrs.length l'[k].c) ∧ w1.frozen? ⟨g, k * 5 + 4, none⟩ = false := by
            refine ⟨?_, World.ownsRow.frozenAt ho _⟩
            rw [World.ownsRow.cellAt ho _ (by omega), Ro.flat_at cells 5 Ro.len_cells _ _ _ hkl (by decide)]
            rfl
          obtain ⟨hcell, hfz⟩ := hcell
          obtain ⟨y, hy⟩ : ∃ y : Cw, y = ⟨{ l'[k].ro with attrs := dropL l nm }, A9, c9⟩ := ⟨_, rfl⟩
          have hyc : cells y = (cells l'[k]).set 4 (.slice A9 L9 c9) := by rw [hy, ← hL9]; rfl
          have hyr : y.ro = (fun r : Ro => { r with attrs := dropL r.attrs nm }) (nd M k).ro := by
            rw [hy]
            have h0 : (ros l')[k]? = (M.map Nd.ro)[k]? := by rw [hr]
            unfold ros at h0
            rw [List.getElem?_map, List.getElem?_map, List.getElem?_eq_getElem hkl, List.getElem?_eq_getElem hk] at h0
            have h1 : l'[k].ro = (nd M k).ro := by rw [nd_at hk]; exact Option.some.inj h0
            have h2 : (nd M k).ro.attrs = l := by rw [← HXR.out]; exact HL.out
            show (⟨l'[k].ro.depth, l'[k].ro.kind, l'[k].ro.name, l'[k].ro.data, dropL l nm⟩ : Ro) = ⟨(nd M k).ro.depth, (nd M k).ro.kind, (nd M k).ro.name, (nd M k).ro.data, dropL (nd M k).ro.attrs nm⟩
            rw [h1, h2]
          have ho' := World.ownsRow.mono ho hszc
          have hfr' : ∀ x ∈ l', Fr w.heap.size w1 x := fun x hx => (hfr x hx).mono hszc
          obtain ⟨s1, s2⟩ := row_stored ho' hfr' hkl (by decide) (.slice A9 L9 c9) hyc
          have hfy : Fr w.heap.size w1 y := by
            have h9 := HAWc.out
            rw [← hL9] at h9
            rw [hy]
            exact ⟨owns_block h9.1 fun b hb' => hb.block b (owns_lt h9.1 hb').2.1, h9.2⟩
          have hfr2 : ∀ x ∈ l'.set k y, Fr w.heap.size (w1.setCell ⟨g, k * 5 + 4, none⟩ (.slice A9 L9 c9)) x := fun x hx => by
            rcases List.mem_or_eq_of_mem_set hx with hx | rfl
            · exact s2 x (hfr' x hx)
            · exact s2 _ hfy
          have hb2 := (bt HBc.out hb).setCell (p := ⟨g, k * 5 + 4, none⟩) (by show w.heap.size ≤ g; omega) (.slice A9 L9 c9)
          have D2 := HD.out.below hb2
          have hp2 := D2.rd.x
          have hpf := box_frozen D2.box 0
          have KEY := Lib.hid (HD.out.newRow (f := fun r => { r with attrs := dropL r.attrs nm }) (by omega) hk hyr s1 hfr2 hr hb2)
          clear s1 s2 hfr2 hb2 D2 hyc hyr hy ho hfr hr hb HMV hfy ho' hfr' hL9
          go_wp2
          go_ret
          obtain ⟨F', h3, h4⟩ := KEY.out
          exact ⟨rfl, F', h3, h4⟩
end Go.Proofs.Ytmlchbohijolaaa.Ar

namespace Go.Proofs.Ytmlchbohijolaaa.Ar
set_option linter.unusedSimpArgs false
set_option linter.unusedVariables false
open Ro (At Ro deeper okRow right rightFrom parent dep hasRow twice Few)
open Na (mayB)
theorem rf_kind : ∀ (l : List Ro) (m : Int), rightFrom m l = true → ∀ (j : Nat) (x y : Ro), l[j + 1]? = some x → l[j]? = some y → y.kind ≠ 0 → x.depth ≤ y.depth
  | [], _, _, j, x, y, hx, _, _ => by simp at hx
  | a :: r, m, h, j, x, y, hx, hy, hk => by
    rw [rightFrom, Bool.and_eq_true, Bool.and_eq_true, Bool.and_eq_true] at h
    obtain ⟨_, h4⟩ := h
    cases j with
    | zero =>
      have hy : a = y := by simpa using hy
      subst hy
      rw [if_neg hk] at h4
      have hx : r[0]? = some x := by simpa using hx
      exact (rf_steps r _ h4 0 x hx).2.1 rfl
    | succ j =>
      exact rf_kind r _ h4 j x y (by simpa using hx) (by simpa using hy) hk
theorem rf_ok : ∀ (l : List Ro) (m : Int), rightFrom m l = true → ∀ x ∈ l, okRow x = true
  | [], _, _, x, hx => by cases hx
  | a :: r, m, h, x, hx => by
    rw [rightFrom, Bool.and_eq_true, Bool.and_eq_true, Bool.and_eq_true] at h
    obtain ⟨⟨_, h3⟩, h4⟩ := h
    rcases List.mem_cons.1 hx with rfl | hx
    · exact h3
    · exact rf_ok r _ h4 x hx
theorem up_spec (l : List Ro) (d : Int) : ∀ (n k : Nat), Ro.up l d n = k → k < n ∧ dep l k < d ∧ ∀ i : Nat, k < i → i < n → d ≤ dep l i
  | 0, k, h => by
    rw [Ro.up] at h
    omega
  | n + 1, k, h => by
    rw [Ro.up] at h
    by_cases hd : dep l n < d
    · rw [if_pos hd] at h
      obtain rfl : n = k := by omega
      exact ⟨Nat.lt_succ_self _, hd, fun i h1 h2 => by omega⟩
    · rw [if_neg hd] at h
      obtain ⟨h1, h2, h3⟩ := up_spec l d n k h
      refine ⟨by omega, h2, fun i h4 h5 => ?_⟩
      by_cases e : i = n
      · subst e
        omega
      · exact h3 i h4 (by omega)
theorem parent_kind {l : List Ro} (h : right l = true) {j k : Nat} (hj : j < l.length) (hp : parI l j = k) : ∃ y, l[k]? = some y ∧ y.kind = 0 := by
  have hh : hasRow l (j : Nat) = true := by
    unfold hasRow
    exact decide_eq_true ⟨by omega, by omega⟩
  unfold parI parent at hp
  rw [if_pos hh, Int.toNat_natCast] at hp
  obtain ⟨h1, h2, h3⟩ := up_spec l _ j k hp
  have hkl : k < l.length := by omega
  refine ⟨l[k], List.getElem?_eq_getElem hkl, ?_⟩
  apply Decidable.byContradiction
  intro hk
  have h4 := rf_kind l 0 h k l[k + 1] l[k] (List.getElem?_eq_getElem (by omega)) (List.getElem?_eq_getElem hkl) hk
  rw [Ro.dep_at (List.getElem?_eq_getElem hkl)] at h2
  by_cases e : k + 1 = j
  · subst e
    rw [Ro.dep_at (List.getElem?_eq_getElem hj)] at h2
    omega
  · have h5 := h3 (k + 1) (by omega) (by omega)
    rw [Ro.dep_at (List.getElem?_eq_getElem (by omega : k + 1 < l.length))] at h5
    omega
theorem ro_add (M : List Nd) (x : Ro) : (addM M x).map Nd.ro = M.map Nd.ro ++ [{ x with depth := 0 }] := by
  unfold addM
  rw [List.map_append]
  rfl
theorem load_ro (l : List Ro) (par : Nat → Int) (M : List Nd) (first : Nat) : ∀ i, i ≤ l.length → (loadTo first l par M i).map Nd.ro = M.map Nd.ro ++ (l.take i).map (fun x => { x with depth := 0 })
  | 0, _ => by simp [loadTo]
  | i + 1, hi => by
    have ih := load_ro l par M first i (by omega)
    have hg : (l[i]?).getD ⟨0, 0, ⟨#[]⟩, ⟨#[]⟩, []⟩ = l[i] := by
      rw [List.getElem?_eq_getElem (by omega)]
      rfl
    have ht : l.take (i + 1) = l.take i ++ [l[i]] := by
      rw [List.take_add_one, List.getElem?_eq_getElem (by omega)]
      rfl
    rw [loadTo]
    split
    · rw [ro_add, ih, hg, ht, List.map_append, List.append_assoc]
      rfl
    · rw [ro_set, ro_add, ih, hg, ht, List.map_append, List.append_assoc]
      rfl
theorem nd_ro {M : List Nd} {L : List Ro} (h : M.map Nd.ro = L) {n : Nat} {x : Ro} (hx : L[n]? = some x) : (nd M n).ro = x := by
  rw [← h, List.getElem?_map] at hx
  cases hm : M[n]? with
  | none =>
    rw [hm] at hx
    cases hx
  | some y =>
    rw [hm] at hx
    unfold nd
    rw [hm]
    exact Option.some.inj hx
/-- What the nodes of a document keep: well-formed, right but for the root, few attributes. -/
structure Inv (B : Nat) (M : List Nd) : Prop where
  wf : Wf M
  good : Good M
  lim : ∀ x ∈ M.map Nd.ro, x.attrs.length ≤ B
  root : (nd M 0).ro = ro00
theorem Inv.few {B : Nat} {M : List Nd} (h : Inv B M) (hB : B ≤ 1000000) : Few (M.map Nd.ro) := fun x hx => Nat.le_trans (h.lim x hx) hB
theorem Inv.more {B C : Nat} {M : List Nd} (h : Inv B M) (hB : B ≤ C) : Inv C M := ⟨h.wf, h.good, fun x hx => Nat.le_trans (h.lim x hx) hB, h.root⟩
theorem inv_M0 : Inv 0 M0 := by
  refine ⟨wf_M0, ⟨fun k h0 hk => ?_, fun p _ h => ?_⟩, fun x hx => ?_, rfl⟩
  · have : M0.length = 1 := rfl
    omega
  · rw [nd_M0]
    split <;> rfl
  · have hx : x = ro00 := by simpa [M0] using hx
    rw [hx]
    exact Nat.le_refl _
theorem Inv.add {B : Nat} {M : List Nd} (h : Inv B M) {x : Ro} (hx : okRow x = true) (ha : x.attrs.length ≤ B) : Inv B (addM M x) := by
  refine ⟨h.wf.add x, h.good.add h.wf hx, fun y hy => ?_, ?_⟩
  · rw [ro_add] at hy
    rcases List.mem_append.1 hy with hy | hy
    · exact h.lim y hy
    · rw [List.mem_singleton.1 hy]
      exact ha
  · have := h.wf.pos
    rw [nd_add, if_neg (by omega)]
    exact h.root
theorem Inv.take {B : Nat} {M : List Nd} (h : Inv B M) (n : Nat) : Inv B (takeOut M n) := ⟨h.wf.take n, h.good.take n, fun y hy => h.lim y (by rw [ro_take] at hy; exact hy), by rw [nd_take]; exact h.root⟩
theorem Inv.set {B : Nat} {M : List Nd} (h : Inv B M) {p n : Nat} (hp : p < M.length) (hn : n < M.length) (h0 : n ≠ 0) (hu : ¬ Up M p n) (hk : p ≠ 0 → (nd M p).ro.kind = 0) (i : Nat) : Inv B (setM M p i n) :=
  ⟨h.wf.set hp hn h0 hu i, h.good.set hp hn hk i, fun y hy => h.lim y (by rw [ro_set] at hy; exact hy), by rw [nd_set hp hn]; exact h.root⟩
theorem Inv.row {B C : Nat} {M : List Nd} (h : Inv B M) {n : Nat} (hn : n < M.length) (h0 : n ≠ 0) {f : Ro → Ro} (hd : (f (nd M n).ro).depth = 0) (hf : okRow (f (nd M n).ro) = true) (hk : (f (nd M n).ro).kind = (nd M n).ro.kind) (hB : B ≤ C) (ha : (f (nd M n).ro).attrs.length ≤ C) : Inv C (rowM M n f) := by
  refine ⟨h.wf.row hn hd, h.good.row_ hn hf hk, fun y hy => ?_, ?_⟩
  · rw [ro_row] at hy
    rcases List.mem_or_eq_of_mem_set hy with hy | rfl
    · exact Nat.le_trans (h.lim y hy) hB
    · exact ha
  · rw [nd_row hn, if_neg (fun e => h0 e.symm)]
    exact h.root
theorem Inv.load {B : Nat} {M : List Nd} (h : Inv B M) {l : List Ro} (hR : right l = true) (ha : ∀ x ∈ l, x.attrs.length ≤ B) : ∀ i, i ≤ l.length → Inv B (loadTo M.length l (parI l) M i)
  | 0, _ => h
  | i + 1, hi => by
    have ih := h.load hR ha i (by omega)
    have hlen := load_len M.length l (parI l) M i
    have hg : (l[i]?).getD ⟨0, 0, ⟨#[]⟩, ⟨#[]⟩, []⟩ = l[i] := by
      rw [List.getElem?_eq_getElem (by omega)]
      rfl
    have hA := ih.add (x := l[i]) (rf_ok l 0 hR _ (List.getElem_mem _)) (ha _ (List.getElem_mem _))
    have hpos := h.wf.pos
    rw [loadTo, hg]
    by_cases hp : parI l i < 0
    · rw [if_pos hp]
      exact hA
    · rw [if_neg hp]
      obtain ⟨k, hk⟩ : ∃ k : Nat, parI l i = k := ⟨(parI l i).toNat, by omega⟩
      have hki := (par_lt l (j := i) (by omega)).1
      rw [hk] at hki ⊢
      rw [Int.toNat_natCast]
      obtain ⟨y, hy, hy0⟩ := parent_kind hR (by omega) hk
      refine hA.set ?_ ?_ ?_ ?_ (fun _ => ?_) _
      · rw [len_add, hlen]
        omega
      · rw [len_add, hlen]
        omega
      · omega
      · intro hu
        have := up_alone hA.wf (by rw [nd_add, if_pos hlen.symm]) hu
        omega
      · have h1 : ((addM (loadTo M.length l (parI l) M i) l[i]).map Nd.ro)[M.length + k]? = some { y with depth := 0 } := by
          rw [ro_add, load_ro l (parI l) M M.length i (by omega), List.append_assoc, List.getElem?_append_right (by rw [List.length_map]; omega), List.length_map, Nat.add_sub_cancel_left, List.getElem?_append_left (by rw [List.length_map, List.length_take]; omega), List.getElem?_map, List.getElem?_take, if_pos (by omega), hy]
          rfl
        rw [nd_ro rfl h1]
        exact hy0
end Go.Proofs.Ytmlchbohijolaaa.Ar

namespace Go.Proofs.Ytmlchbohijolaaa.Ar
set_option linter.unusedSimpArgs false
set_option linter.unusedVariables false
open Go.RowKit Ba
open Ro (At Ro Cw ros deeper okRow right rightFrom parent dep hasRow twice Few check)
open Na (mayB)
theorem twice_iff : ∀ (l : List At), twice l = false ↔ l.Pairwise (fun a b => b.name ≠ a.name)
  | [] => ⟨fun _ => List.Pairwise.nil, fun _ => rfl⟩
  | a :: r => by
    rw [twice, Bool.or_eq_false_iff, List.pairwise_cons, twice_iff r, List.any_eq_false]
    constructor
    · rintro ⟨h1, h2⟩
      exact ⟨fun b hb e => h1 b hb (decide_eq_true e), h2⟩
    · rintro ⟨h1, h2⟩
      exact ⟨fun b hb e => h1 b hb (of_decide_eq_true e), h2⟩
theorem atF_name (nm v : ByteArray) (a : At) : (atF nm v a).name = a.name := by
  unfold atF
  split <;> rfl
theorem put_iff {nm : ByteArray} {l : List At} : putB l nm = true ↔ ∃ a ∈ l, a.name = nm := by
  unfold putB
  rw [List.any_eq_true]
  constructor
  · rintro ⟨a, h1, h2⟩
    exact ⟨a, h1, of_decide_eq_true h2⟩
  · rintro ⟨a, h1, h2⟩
    exact ⟨a, h1, decide_eq_true h2⟩
theorem twice_set {l : List At} (nm v : ByteArray) (h : twice l = false) : twice (atSet l nm v) = false := by
  rw [twice_iff] at h
  have hm : (l.map (atF nm v)).Pairwise (fun a b => b.name ≠ a.name) := by
    rw [List.pairwise_map]
    exact h.imp fun {a b} h => by rw [atF_name, atF_name]; exact h
  unfold atSet
  by_cases hp : putB l nm = true
  · rw [if_pos hp, twice_iff]
    exact hm
  · rw [if_neg hp, twice_iff, List.pairwise_append]
    refine ⟨hm, List.pairwise_singleton _ _, fun a ha b hb e => ?_⟩
    rw [List.mem_singleton] at hb
    subst hb
    obtain ⟨a', h1, rfl⟩ := List.mem_map.1 ha
    rw [atF_name] at e
    exact hp (put_iff.2 ⟨a', h1, e.symm⟩)
theorem twice_drop {l : List At} (nm : ByteArray) (h : twice l = false) : twice (dropL l nm) = false := by
  rw [twice_iff] at h ⊢
  exact h.sublist List.filter_sublist
theorem ok_el {x : Ro} (hk : x.kind = 0) : okRow x = (!x.name.toList.isEmpty && x.data.toList.isEmpty && !twice x.attrs) := by
  unfold okRow
  rw [if_pos (by rw [hk]; rfl)]
theorem ok_other {x : Ro} (hk : x.kind ≠ 0) : okRow x = ((x.kind == 1 || x.kind == 2) && x.name.toList.isEmpty && (x.attrs.length : Int) == 0) := by
  unfold okRow
  rw [if_neg (by simpa using hk)]
theorem set_len (l : List At) (nm v : ByteArray) : (atSet l nm v).length ≤ l.length + 1 := by
  unfold atSet
  split
  · rw [List.length_map]
    omega
  · rw [List.length_append, List.length_map, List.length_singleton]
    omega

/-- A call of a script, as a value. -/
structure Op11 where
  kind : Int
  node : Int
  other : Int
  at_ : Int
  what : Int
  name : ByteArray
  value : ByteArray
  x : List Cw
  A : Option Addr
  c : Nat
def cut12 (l : List Ro) : List Ro := (l.take 12).map fun r => { r with attrs := r.attrs.take 4 }
theorem cut12_len (l : List Ro) : (cut12 l).length ≤ 12 := by
  unfold cut12
  rw [List.length_map, List.length_take]
  omega
theorem cut12_attrs (l : List Ro) : ∀ x ∈ cut12 l, x.attrs.length ≤ 4 := fun x hx => by
  obtain ⟨y, _, rfl⟩ := List.mem_map.1 hx
  rw [List.length_take]
  omega
noncomputable def loadM (M : List Nd) (l : List Ro) : List Nd := if loadE M l = 0 then loadTo M.length l (parI l) M l.length else M
def remM (M : List Nd) (n : Int) : List Nd := if 1 ≤ n ∧ n < M.length then takeOut M n.toNat else M
noncomputable def opM (M : List Nd) (o : Op11) : List Nd :=
  if o.kind = 0 then makeM M o.what o.name o.value
  else if o.kind = 1 then loadM M (cut12 (ros o.x))
  else if o.kind = 2 then insM M o.node o.at_ o.other
  else if o.kind = 3 then remM M o.node
  else if o.kind = 4 then cloneM M o.node
  else if o.kind = 5 then attrM11 M o.node o.name o.value
  else if o.kind = 6 then dropM11 M o.node o.name
  else if o.kind = 7 then dataM M o.node o.value
  else M
theorem Inv.make {B : Nat} {M : List Nd} (h : Inv B M) (k : Int) (n d : ByteArray) : Inv B (makeM M k n d) := by
  unfold makeM
  split
  · rename_i hb
    rw [Bool.and_eq_true] at hb
    have hb := hb.1
    refine h.add ?_ (Nat.zero_le _)
    unfold makeB at hb
    rw [Bool.or_eq_true] at hb
    rcases hb with hb | hb
    · rw [Bool.and_eq_true, Bool.and_eq_true] at hb
      obtain ⟨⟨h1, h2⟩, h3⟩ := hb
      have h1 : k = 0 := by simpa using h1
      rw [ok_el (by exact h1)]
      show (!n.toList.isEmpty && d.toList.isEmpty && !twice []) = true
      rw [h3]
      have hne : n.toList.isEmpty = false := by
        rw [← Bool.not_eq_true]
        intro he
        have hz : n.size = 0 := by
          have : n.toList = [] := by simpa using he
          exact Na.nil_size this
        have := Na.may_nil (s := n) false hz
        rw [this] at h2
        cases h2
      rw [hne]
      rfl
    · rw [Bool.and_eq_true, Bool.or_eq_true] at hb
      obtain ⟨h1, h2⟩ := hb
      have hk : k ≠ 0 := by
        intro e
        subst e
        revert h1
        decide
      rw [ok_other (by exact hk)]
      show ((k == 1 || k == 2) && n.toList.isEmpty && ((([] : List At).length : Int) == 0)) = true
      rw [h2, Bool.and_true]
      rcases h1 with h1 | h1
      · rw [h1]
        rfl
      · rw [h1, Bool.or_true]
        rfl
  · exact h
theorem Inv.loadM {B : Nat} {M : List Nd} (h : Inv B M) {l : List Ro} (ha : ∀ x ∈ l, x.attrs.length ≤ B) : Inv B (loadM M l) := by
  unfold Ar.loadM
  split
  · rename_i h0
    refine h.load ?_ ha l.length (Nat.le_refl _)
    unfold loadE at h0
    by_cases hc : check l = 0
    · exact check_right hc
    · rw [if_neg hc] at h0
      exact absurd h0 hc
  · exact h
theorem Inv.ins {B : Nat} {M : List Nd} (h : Inv B M) (P A n : Int) : Inv B (insM M P A n) := by
  unfold insM
  split
  · rename_i h0
    by_cases c1 : P < 0 ∨ (M.length : Int) ≤ P ∨ n < 1 ∨ (M.length : Int) ≤ n
    · rw [(ins_110 c1).1] at h0
      cases h0
    · by_cases c2 : (0 < P ∧ (nd M P.toNat).ro.kind ≠ 0) ∨ Win M P n
      · rw [(ins_111 c1 c2).1] at h0
        cases h0
      · refine h.set (by omega) (by omega) (by omega) (fun hu => c2 (.inr ⟨by omega, by omega, hu⟩)) (fun hp => ?_) _
        apply Decidable.byContradiction
        intro hk
        exact c2 (.inl ⟨by omega, hk⟩)
  · exact h
theorem Inv.rem {B : Nat} {M : List Nd} (h : Inv B M) (n : Int) : Inv B (remM M n) := by
  unfold remM
  split
  · exact h.take _
  · exact h
theorem tree_lim {B : Nat} {M : List Nd} (h : Inv B M) (n : Int) : ∀ x ∈ rowsM M n, x.attrs.length ≤ B := by
  have hn : ∀ m, (nd M m).ro.attrs.length ≤ B := fun m => by
    by_cases hm : m < M.length
    · rw [nd_at hm]
      exact h.lim _ (List.mem_map.2 ⟨_, List.getElem_mem hm, rfl⟩)
    · rw [nd_out hm]
      exact Nat.zero_le _
  intro x hx
  unfold rowsM at hx
  split at hx
  · split at hx
    · obtain ⟨k, _, hx⟩ := List.mem_flatMap.1 hx
      obtain ⟨m, hm⟩ := tree_attrs _ _ _ x hx
      rw [hm]
      exact hn m
    · obtain ⟨m, hm⟩ := tree_attrs _ _ _ x hx
      rw [hm]
      exact hn m
  · cases hx
theorem Inv.clone {B : Nat} {M : List Nd} (h : Inv B M) (n : Int) : Inv B (cloneM M n) := by
  unfold cloneM
  split
  · exact h
  · exact h.load (good_right h.wf h.good n) (tree_lim h n) _ (Nat.le_refl _)
theorem Inv.attr {B : Nat} {M : List Nd} (h : Inv B M) (n : Int) (nm v : ByteArray) : Inv (B + 1) (attrM11 M n nm v) := by
  unfold attrM11
  split
  · rename_i hb
    rw [Bool.and_eq_true] at hb
    obtain ⟨k, rfl, hk, hk0, hkd⟩ := el_nat hb.1
    rw [Int.toNat_natCast]
    have hok := h.good.row k hk0 hk
    rw [ok_el hkd, Bool.and_eq_true] at hok
    have hlim : (nd M k).ro.attrs.length ≤ B := by
      rw [nd_at hk]
      exact h.lim _ (List.mem_map.2 ⟨_, List.getElem_mem hk, rfl⟩)
    refine h.row hk hk0 (h.wf.flat k) ?_ rfl (Nat.le_succ _) ?_
    · rw [ok_el (by exact hkd), Bool.and_eq_true]
      refine ⟨hok.1, ?_⟩
      have := twice_set nm v (l := (nd M k).ro.attrs) (by simpa using hok.2)
      show (!twice (atSet (nd M k).ro.attrs nm v)) = true
      rw [this]
      rfl
    · have := set_len (nd M k).ro.attrs nm v
      show (atSet (nd M k).ro.attrs nm v).length ≤ B + 1
      omega
  · exact h.more (Nat.le_succ _)
theorem Inv.drop {B : Nat} {M : List Nd} (h : Inv B M) (n : Int) (nm : ByteArray) : Inv B (dropM11 M n nm) := by
  unfold dropM11
  split
  · rename_i hb
    rw [Bool.and_eq_true] at hb
    obtain ⟨k, rfl, hk, hk0, hkd⟩ := el_nat hb.1
    rw [Int.toNat_natCast]
    have hok := h.good.row k hk0 hk
    rw [ok_el hkd, Bool.and_eq_true] at hok
    have hlim : (nd M k).ro.attrs.length ≤ B := by
      rw [nd_at hk]
      exact h.lim _ (List.mem_map.2 ⟨_, List.getElem_mem hk, rfl⟩)
    refine h.row hk hk0 (h.wf.flat k) ?_ rfl (Nat.le_refl _) ?_
    · rw [ok_el (by exact hkd), Bool.and_eq_true]
      refine ⟨hok.1, ?_⟩
      have := twice_drop nm (l := (nd M k).ro.attrs) (by simpa using hok.2)
      show (!twice (dropL (nd M k).ro.attrs nm)) = true
      rw [this]
      rfl
    · show (dropL (nd M k).ro.attrs nm).length ≤ B
      exact Nat.le_trans (List.length_filter_le _ _) hlim
  · exact h
theorem Inv.data {B : Nat} {M : List Nd} (h : Inv B M) (n : Int) (d : ByteArray) : Inv B (dataM M n d) := by
  unfold dataM
  split
  · exact h
  · rename_i hc
    have hn1 : n.toNat < M.length := by omega
    have hn0 : n.toNat ≠ 0 := by omega
    have hkd : (nd M n.toNat).ro.kind ≠ 0 := fun e => hc (.inr (.inr e))
    have hok := h.good.row _ hn0 hn1
    rw [ok_other hkd] at hok
    refine h.row hn1 hn0 (h.wf.flat _) ?_ rfl (Nat.le_refl _) ?_
    · rw [ok_other (by exact hkd)]
      exact hok
    · show (nd M n.toNat).ro.attrs.length ≤ B
      rw [nd_at hn1]
      exact h.lim _ (List.mem_map.2 ⟨_, List.getElem_mem hn1, rfl⟩)
theorem Inv.op {B : Nat} {M : List Nd} (h : Inv B M) (hB : 4 ≤ B) (o : Op11) : Inv (B + 1) (opM M o) := by
  unfold opM
  split
  · exact (h.make _ _ _).more (Nat.le_succ _)
  split
  · exact (h.loadM fun x hx => Nat.le_trans (cut12_attrs _ x hx) hB).more (Nat.le_succ _)
  split
  · exact (h.ins _ _ _).more (Nat.le_succ _)
  split
  · exact (h.rem _).more (Nat.le_succ _)
  split
  · exact (h.clone _).more (Nat.le_succ _)
  split
  · exact h.attr _ _ _
  split
  · exact (h.drop _ _).more (Nat.le_succ _)
  split
  · exact (h.data _ _).more (Nat.le_succ _)
  · exact h.more (Nat.le_succ _)
theorem rows_short {M : List Nd} (W : Wf M) (n : Int) : (rowsM M n).length ≤ M.length := by
  unfold rowsM
  split
  · rename_i h
    split
    · have h2 := tr_short W W.pos (-1)
      rw [tr_eq W W.pos, List.length_cons] at h2
      have h3 : ((nd M 0).kids.flatMap fun k => tr M k ((-1 : Int) + 1)) = (nd M 0).kids.flatMap fun k => tr M k 0 := rfl
      rw [h3] at h2
      omega
    · exact tr_short W (by omega) 0
  · exact Nat.zero_le _
theorem loadM_len (M : List Nd) (l : List Ro) : M.length ≤ (loadM M l).length ∧ (loadM M l).length ≤ M.length + l.length := by
  unfold loadM
  split
  · rw [load_len]
    omega
  · omega
theorem makeM_len (M : List Nd) (k : Int) (n d : ByteArray) : M.length ≤ (makeM M k n d).length ∧ (makeM M k n d).length ≤ M.length + 1 := by
  unfold makeM
  split
  · rw [len_add]
    omega
  · omega
theorem insM_len (M : List Nd) (P A n : Int) : (insM M P A n).length = M.length := by
  unfold insM
  split
  · rw [len_set]
  · rfl
theorem remM_len (M : List Nd) (n : Int) : (remM M n).length = M.length := by
  unfold remM
  split
  · rw [len_take]
  · rfl
theorem cloneM_len {M : List Nd} (W : Wf M) (n : Int) : M.length ≤ (cloneM M n).length ∧ (cloneM M n).length ≤ 2 * M.length := by
  have := rows_short W n
  unfold cloneM
  split
  · omega
  · rw [load_len]
    omega
theorem attrM_len (M : List Nd) (n : Int) (nm v : ByteArray) : (attrM11 M n nm v).length = M.length := by
  unfold attrM11
  split
  · rw [len_row]
  · rfl
theorem dropM_len (M : List Nd) (n : Int) (nm : ByteArray) : (dropM11 M n nm).length = M.length := by
  unfold dropM11
  split
  · rw [len_row]
  · rfl
theorem dataM_len (M : List Nd) (n : Int) (d : ByteArray) : (dataM M n d).length = M.length := by
  unfold dataM
  split
  · rfl
  · rw [len_row]
theorem opM_len {M : List Nd} (W : Wf M) (o : Op11) : M.length ≤ (opM M o).length ∧ (opM M o).length ≤ 2 * M.length + 12 := by
  have h0 := makeM_len M o.what o.name o.value
  have h1 := loadM_len M (cut12 (ros o.x))
  have h1' := cut12_len (ros o.x)
  have h4 := cloneM_len W o.node
  unfold opM
  split
  · omega
  split
  · omega
  split
  · rw [insM_len]
    omega
  split
  · rw [remM_len]
    omega
  split
  · omega
  split
  · rw [attrM_len]
    omega
  split
  · rw [dropM_len]
    omega
  split
  · rw [dataM_len]
    omega
  · omega
end Go.Proofs.Ytmlchbohijolaaa.Ar

namespace Go.Proofs.Ytmlchbohijolaaa.Ar
set_option maxRecDepth 100000
set_option linter.unusedSimpArgs false
set_option linter.unusedVariables false
open Go.RowKit Ba
open Ro (At Ro Cw ros Rr Ow Nw Rn Fr Att Ap Sh Ra Rv Held cells acells app_num app_row below_new getElem_of_drop infoI info_row size_row len_cells rowV rowO Few ros_append dec_cons)
theorem len_cut12 (l : List Ro) : (cut12 l).length = min 12 l.length := by
  unfold cut12
  rw [List.length_map, List.length_take]
theorem cut12_at {l : List Ro} {k : Nat} {x : Ro} (h : l[k]? = some x) (hk : k < 12) : (cut12 l).take (k + 1) = (cut12 l).take k ++ [{ x with attrs := x.attrs.take 4 }] := by
  rw [List.take_add_one]
  congr 1
  unfold cut12
  rw [List.getElem?_map, List.getElem?_take, if_pos hk, h]
  rfl
theorem cut4 {w : World} {N : Nat} {x : Cw} (h : Att w N x) : Att w N (Ro.cut x (x.ro.attrs.take 4)) :=
  ⟨Nat.le_trans (List.length_take_le' _ _) h.1, h.2.1, h.2.2.1, h.2.2.2.1.take 4, fun a ha => h.2.2.2.2 a (List.mem_of_mem_take ha)⟩
theorem cut12_at' {l : List Cw} {k : Nat} {x : Cw} (h : l[k]? = some x) (hk : k < 12) : (cut12 (ros l)).take (k + 1) = (cut12 (ros l)).take k ++ [{ x.ro with attrs := x.ro.attrs.take 4 }] :=
  cut12_at (by rw [ros, List.getElem?_map, h]; rfl) hk
theorem len_cut12' (l : List Cw) : (cut12 (ros l)).length = min 12 l.length := by rw [len_cut12, Ro.len_ros]
set_option maxRecDepth 100000 in
set_option maxHeartbeats 1000000 in
theorem trees1 (K : Nat) (A : Option Addr) (c : Nat) (l : List Cw) (w : World) (hr : Rr w K A l) (hK : K ≤ w.heap.size) (hc : l.length ≤ c) (hm : c ≤ maxLen) :
    Calls Try.prog 23 #[.slice A l.length c] w fun e w' => ∃ v l', e = .returned v ∧ Ow w.heap.size w' v l' ∧ (∀ x ∈ l', Att w' K x) ∧ ros l' = cut12 (ros l) ∧ Below w.heap.size w w' := by
  unfold maxLen at hm
  go_enter Try.func23, Try.ntmps23
  go_wp2
  go_loopw [3, 4] (fun v i wr => ∃ (k : Nat) (acc : List Cw), i = .int .i64 k ∧ k ≤ l.length ∧ k ≤ 12 ∧ acc.length = k ∧ Ow w.heap.size wr v acc ∧ (∀ x ∈ acc, Att wr K x) ∧ ros acc = (cut12 (ros l)).take k ∧ Below w.heap.size w wr) (fun _ i _ => l.length - (intOf i).toNat)
  case atStart => exact ⟨0, [], rfl, by omega, by omega, rfl, Ow.made w, fun _ h => by simp at h, rfl, below_new w _⟩
  case round =>
    obtain ⟨k, acc, rfl, hk, hk6, hal, hown, hatt, hros, hbel⟩ := hrel
    have hsz := hbel.size
    by_cases hp : k < l.length
    · by_cases hp6 : k < 12
      · obtain ⟨b, off, x, rfl, hb, hdx, hx, hxa, hxm⟩ := (hr.below hbel hK).at_ k hp
        have hs : ros acc ++ [{ x.ro with attrs := x.ro.attrs.take 4 }] = (cut12 (ros l)).take (k + 1) := by rw [hros, cut12_at' (getElem_of_drop hdx) hp6]
        have hca := cut4 hxa
        obtain ⟨ys, hys⟩ : ∃ ys, x.ro.attrs.take 4 = ys := ⟨_, rfl⟩
        have hyl : ys.length = min x.ro.attrs.length 4 := by rw [← hys, List.length_take, Nat.min_comm]
        rw [hys] at hs hca
        have hmin := fun w => Ro.min_any x.ro.attrs.length 4 4 rfl ys.length hyl w
        have hyc : ys.length ≤ x.c := hca.1
        have hxc := hxa.1
        have hxm2 := hxa.2.2.1
        unfold maxLen at hxm2
        have HS := Lib.hid hs; have HOW := Lib.hid hown; have HATT := Lib.hid hatt; have HAL := Lib.hid hal; have HCA := Lib.hid hca
        have HC1 : Hid (Att wr wr.heap.size (Ro.cut x ys)) := Lib.hid (hca.more (Nat.le_trans hK hsz))
        have HC2 : Hid (Ap wr w.heap.size (Ro.cut x ys)) := Lib.hid (hca.more hK).apart
        have HC3 : Hid (Att (wr.alloc (rowO (Ro.cut x ys))) (wr.alloc (rowO (Ro.cut x ys))).heap.size (Ro.cut x ys)) := Lib.hid (HC1.out.boxed (Below.refl _ _) _)
        have hacc : acc.length ≤ 2000000 := by omega
        clear hros hdx hs hown hatt hxa hal hca hys hyl
        go_wp2_with (first
          | (refine wpList_load_mid rfl 65 (.tmp 19) rfl b (off + k * 5) rfl _ _ hx Try.underlying65 rfl size_row ?_)
          | (at_builtin; refine app_row _ rfl (.tmp 29) (.tmp 31) rfl w.heap.size _ acc (Ro.cut x ys) rfl (HOW.out.alloc _) HC3.out (HC2.out.below (below_new _ _)) (wr.heap.size + 1) (by simp) rfl hacc (by simp; omega) ?_; intro v3 w3 ho3 hk3 hf3))
        go_roundw
        case rel =>
          have hb3 := hk3 w (hbel.alloc hsz _)
          refine ⟨k + 1, acc ++ [Ro.cut x ys], by go_num, by omega, by omega, by rw [List.length_append, HAL.out]; rfl, ho3, fun z hz => ?_, by rw [ros_append]; exact HS.out, hb3⟩
          have hbw : Below w.heap.size wr w3 := hk3 wr (below_new wr _ |>.mono hsz)
          rcases List.mem_append.1 hz with h | h
          · exact (HATT.out z h).below hbw hK
          · obtain rfl := List.mem_singleton.1 h
            exact HCA.out.below hbw hK
        case measure => simp [intOf]; omega
      · obtain rfl : k = 12 := by omega
        have hrs : ros acc = cut12 (ros l) := by rw [hros, List.take_of_length_le]; rw [len_cut12']; omega
        have HR := Lib.hid hrs
        clear hros hrs
        go_wp2
        go_ret
        exact ⟨_, acc, rfl, hown, hatt, HR.out, hbel⟩
    · have hrs : ros acc = cut12 (ros l) := by rw [hros, List.take_of_length_le]; rw [len_cut12']; omega
      have HR := Lib.hid hrs
      clear hros hrs
      go_wp2
      go_ret
      exact ⟨_, acc, rfl, hown, hatt, HR.out, hbel⟩

set_option maxRecDepth 100000 in
set_option maxHeartbeats 1000000 in
theorem nums11 (A B : Option Addr) (ca cb : Nat) (xs ys : List Nat) (w : World) (hra : Rn w w.heap.size A xs) (hrb : Rn w w.heap.size B ys) (hca : xs.length ≤ ca) (hcb : ys.length ≤ cb) (hma : ca ≤ maxLen) (hmb : cb ≤ maxLen) :
    Calls Try.prog 49 #[.slice A xs.length ca, .slice B ys.length cb] w fun e w' => e = .returned (.bool (decide (xs = ys))) ∧ ∃ n, w' = w.drewN n := by
  unfold maxLen at hma hmb
  by_cases hlen : xs.length = ys.length
  · obtain ⟨V, hV⟩ : ∃ V, decide (xs = ys) = V := ⟨_, rfl⟩
    rw [hV]
    have hne : ((xs.length : Int) != (ys.length : Int)) = false := by rw [hlen]; simp
    have HV := Lib.hid hV; have HL := Lib.hid hlen
    clear hV hlen
    go_enter Try.func49, Try.ntmps49
    go_wp2
    go_loopw [5] (fun i wr => ∃ k : Nat, i = .int .i64 k ∧ k ≤ xs.length ∧ decide (xs.drop k = ys.drop k) = V ∧ ∃ n, wr = w.drewN n) (fun i _ => xs.length - (intOf i).toNat)
    case atStart => exact ⟨0, rfl, by omega, HV.out, 0, rfl⟩
    case round =>
      clear HV
      obtain ⟨k, rfl, hk, hv, n, rfl⟩ := hrel
      by_cases hp : k < xs.length
      · obtain ⟨b1, o1, x, rfl, _, hdx, hx⟩ := hra.at_ k hp
        have hp2 : k < ys.length := by have := HL.out; omega
        obtain ⟨b2, o2, y, rfl, _, hdy, hy⟩ := hrb.at_ k hp2
        rw [hdx, hdy] at hv
        obtain ⟨v1, v2⟩ := dec_cons hv
        clear hv hdx hdy
        by_cases hxy : x = y
        · subst hxy
          have HV := Lib.hid (v1 rfl)
          have hne2 : ((x : Int) != (x : Int)) = false := by simp
          clear v1 v2
          go_wp2
          go_quiet (fail)
          go_wp2
          go_roundw
          case rel => exact ⟨k + 1, by go_num, by omega, HV.out, _, rfl⟩
          case measure => simp [intOf]; omega
        · obtain rfl := v2 hxy
          have hne2 : ((x : Int) != (y : Int)) = true := by rw [bne_iff_ne]; omega
          clear v1 v2 hxy
          go_wp2
          go_quiet (fail)
          go_wp2
          go_ret
          exact ⟨rfl, _, World.drewN_drewN _ _ _⟩
      · rw [List.drop_eq_nil_of_le (by omega), List.drop_eq_nil_of_le (by have := HL.out; omega)] at hv
        have HV := Lib.hid hv
        clear hv
        go_wp2
        go_ret
        exact ⟨ret_bool (by rw [← HV.out]; rfl), _, rfl⟩
  · have e : decide (xs = ys) = false := decide_eq_false fun e => hlen (by rw [e])
    rw [e]
    have hne : ((xs.length : Int) != (ys.length : Int)) = true := by rw [bne_iff_ne]; omega
    clear e hlen
    go_enter Try.func49, Try.ntmps49
    go_wp2
    go_ret
    exact ⟨rfl, 0, rfl⟩

theorem nw_rn {K : Nat} {w : World} {v : Value} {l : List Nat} (h : Nw K w v l) : ∃ A c, v = .slice A l.length c ∧ l.length ≤ c ∧ c ≤ maxLen ∧ Rn w w.heap.size A l := by
  obtain ⟨A, c, hv, hat⟩ := nw_at h
  obtain ⟨A', c', hv', h1, h2⟩ : ∃ A c, v = .slice A l.length c ∧ l.length ≤ c ∧ c ≤ maxLen := by
    rcases h.2 with ⟨hv, h0⟩ | ⟨g, cap, cur, hv, hg, hh, hn, hm, hs, ht⟩
    · exact ⟨none, 0, by rw [h0]; exact hv, by omega, Nat.zero_le _⟩
    · exact ⟨_, cap, hv, hn, hm⟩
  rw [hv] at hv'
  injection hv' with e1 e2 e3
  subst e1 e3
  refine ⟨A, c, hv, h1, h2, fun h0 => ?_⟩
  obtain ⟨b, hA, _, hb, hcell⟩ := hat h0
  refine ⟨b, 0, hA, hb, fun j hj => ?_⟩
  rw [Nat.zero_add]
  exact hcell j hj
/-- The laws' nums over values that read as numbers. -/
theorem nums1 {K L : Nat} {u v : Value} {xs ys : List Nat} (w : World) (hu : Nw K w u xs) (hv : Nw L w v ys) (q : Bool) (hq : decide (xs = ys) = q) : Calls Try.prog 49 #[u, v] w fun e w' => e = .returned (.bool q) ∧ Below w.heap.size w w' := by
  obtain ⟨A, c, rfl, h1, h2, h3⟩ := nw_rn hu
  obtain ⟨B, d, rfl, h4, h5, h6⟩ := nw_rn hv
  subst hq
  refine (nums11 A B c d xs ys w h3 h6 h1 h4 h2 h5).mono ?_
  rintro e w' ⟨rfl, n, rfl⟩
  exact ⟨rfl, below_dN11 (Below.refl _ _) n⟩
end Go.Proofs.Ytmlchbohijolaaa.Ar

namespace Go.Proofs.Ytmlchbohijolaaa.Ar
set_option maxRecDepth 100000
set_option linter.unusedSimpArgs false
set_option linter.unusedVariables false
open Go.RowKit Ba
open Ro (At Ro Cw ros Rr Ow Nw Fr Att Ap Sh cells acells app_num below_new infoI info_row len_cells)
/-- A slice of one's own; if it is cut at its end it is full. -/
def Of (w : World) (N : Nat) (t : TypeId) (s : Nat) (A : Option Addr) (n c : Nat) (xs : List Value) : Prop :=
  w.ownsRow N t s (.slice A n c) n xs ∨ (c = n ∧ xs.length = n * s ∧ n ≤ maxLen ∧ ∃ g cur, A = some ⟨g, 0, none⟩ ∧ N ≤ g ∧ w.heap[g]? = some (.cells cur t (0, 0)) ∧ n * s ≤ cur.size ∧ cur.toList.take (n * s) = xs)
section
variable {w w' : World} {N s n c : Nat} {t : TypeId} {A : Option Addr} {xs : List Value}
theorem Of.len (h : Of w N t s A n c xs) : xs.length = n * s := by
  rcases h with h | ⟨_, h, _⟩
  · exact h.1
  · exact h
theorem Of.obj (h : Of w N t s A n c xs) : (A = none ∧ n = 0 ∧ c = 0) ∨ ∃ g cur, A = some ⟨g, 0, none⟩ ∧ N ≤ g ∧ g < w.heap.size ∧ w.heap[g]? = some (.cells cur t (0, 0)) ∧ n * s ≤ cur.size ∧ cur.toList.take (n * s) = xs ∧ n ≤ c ∧ c ≤ maxLen := by
  rcases h with h | ⟨rfl, _, hm, g, cur, hA, hN, hh, hs, ht⟩
  · rcases h.2 with ⟨hv, hn⟩ | ⟨g, cap, cur, hv, hN, hh, hn, hm, hs, ht⟩
    · injection hv with h1 h2 h3
      exact .inl ⟨h1, h2, h3⟩
    · injection hv with h1 h2 h3
      subst h3
      refine .inr ⟨g, cur, h1, hN, (Array.getElem?_eq_some_iff.1 hh).1, hh, ?_, ht, hn, hm⟩
      rw [hs]
      exact Nat.mul_le_mul_right _ hn
  · exact .inr ⟨g, cur, hA, hN, (Array.getElem?_eq_some_iff.1 hh).1, hh, hs, ht, Nat.le_refl _, hm⟩
theorem Of.cap (h : Of w N t s A n c xs) : n ≤ c ∧ c ≤ maxLen := by
  rcases h.obj with ⟨_, rfl, rfl⟩ | ⟨_, _, _, _, _, _, _, _, h⟩
  · exact ⟨Nat.le_refl _, Nat.zero_le _⟩
  · exact h
theorem Of.block (h : Of w N t s A n c xs) (hb : ∀ g, A = some ⟨g, 0, none⟩ → w'.heap[g]? = w.heap[g]?) : Of w' N t s A n c xs := by
  rcases h with h | ⟨rfl, hl, hm, g, cur, hA, hN, hh, hs, ht⟩
  · refine .inl (owns_block h fun g hg => ?_)
    have hof : Of w N t s A n c xs := Or.inl h
    rcases hof.obj with ⟨hA, _⟩ | ⟨g', cur, hA, _⟩
    · rw [hA] at hg
      cases hg
    · rw [hA] at hg
      obtain rfl : g' = g := Option.some.inj hg
      exact hb _ hA
  · exact .inr ⟨rfl, hl, hm, g, cur, hA, hN, (hb g hA).trans hh, hs, ht⟩
theorem Of.below {K : Nat} (h : Of w N t s A n c xs) (hb : Below K w w') (hK : w.heap.size ≤ K := by exact Nat.le_refl _) : Of w' N t s A n c xs := h.block fun g hA => by
  rcases h.obj with ⟨hA', _⟩ | ⟨g', cur, hA', _, hlt, _⟩
  · rw [hA'] at hA
    cases hA
  · rw [hA'] at hA
    cases hA
    exact hb.block g (by omega)
theorem Of.mono {N' : Nat} (h : Of w N t s A n c xs) (hN : N' ≤ N) : Of w N' t s A n c xs := by
  rcases h with h | ⟨rfl, hl, hm, g, cur, hA, hN', hh, hs, ht⟩
  · exact .inl (World.ownsRow.mono h hN)
  · exact .inr ⟨rfl, hl, hm, g, cur, hA, by omega, hh, hs, ht⟩
/-- Its cells. -/
theorem Of.cells (h : Of w N t s A n c xs) {g : Nat} (hA : A = some ⟨g, 0, none⟩) (j : Nat) (u : Value) (hu : xs[j]? = some u) : w.cell? ⟨g, j, none⟩ = some u ∧ w.frozen? ⟨g, j, none⟩ = false := by
  rcases h.obj with ⟨hA', _⟩ | ⟨g', cur, hA', _, _, hh, _, ht, _⟩
  · rw [hA'] at hA
    cases hA
  · rw [hA'] at hA
    cases hA
    have hj : j < n * s := by
      have := (List.getElem?_eq_some_iff.1 hu).1
      rw [h.len] at this
      exact this
    rw [← ht, List.getElem?_take, if_pos hj] at hu
    constructor
    · unfold World.cell?
      rw [hh]
      simpa using hu
    · unfold World.frozen?
      rw [hh]
      rfl
/-- Cut at its end: what is ahead of a place. -/
theorem Of.cut (h : Of w N t s A n c xs) {k : Nat} (hk : k ≤ n) : Of w N t s A k k (xs.take (k * s)) := by
  have hl := h.len
  have hks : k * s ≤ n * s := Nat.mul_le_mul_right _ hk
  rcases h.obj with ⟨hA, rfl, rfl⟩ | ⟨g, cur, hA, hN, _, hh, hs, ht, hn, hm⟩
  · obtain rfl : k = 0 := by omega
    refine .inl ⟨by simp, .inl ⟨by rw [hA], rfl⟩⟩
  · refine .inr ⟨rfl, by rw [List.length_take]; omega, by omega, g, cur, hA, hN, hh, by omega, ?_⟩
    rw [← ht, List.take_take, Nat.min_eq_left hks]
/-- One of its cells changed. -/
theorem Of.store (h : Of w N t s A n c xs) {g : Nat} (hA : A = some ⟨g, 0, none⟩) (j : Nat) (u : Value) : Of (w.setCell ⟨g, j, none⟩ u) N t s A n c (xs.set j u) := by
  rcases h with h | ⟨rfl, hl, hm, g', cur, hA', hN, hh, hs, ht⟩
  · subst hA
    exact .inl (World.ownsRow.stored h j u).1
  · rw [hA'] at hA
    cases hA
    refine .inr ⟨rfl, by rw [List.length_set]; exact hl, hm, g, cur.setIfInBounds j u, hA', hN, ?_, by simpa using hs, ?_⟩
    · simp [World.setCell, Array.getElem?_modify, hh]
    · rw [Array.toList_setIfInBounds, List.take_set, ht]
end
end Go.Proofs.Ytmlchbohijolaaa.Ar

namespace Go.Proofs.Ytmlchbohijolaaa.Ar
set_option linter.unusedSimpArgs false
set_option linter.unusedVariables false
open Go.RowKit Ba
open Ro (At Ro Cw ros Rr Ow Nw Fr Att Ap Sh Ra cells acells app_num below_new infoI info_row len_cells)
/-- An entry as it lies: its row (with whatever depth), its parent, its kids. -/
structure Ew where
  x : Cw
  up : Int
  K : Option Addr
  kc : Nat
  kids : List Nat
def nv (k : Nat) : Value := .int .i64 (k : Int)
def ecells (e : Ew) : List Value := [.int .i64 e.x.ro.depth, .int .i64 e.x.ro.kind, .string e.x.ro.name, .string e.x.ro.data, .slice e.x.A e.x.ro.attrs.length e.x.c, .int .i64 e.up, .slice e.K e.kids.length e.kc]
theorem len_ecells (e : Ew) : (ecells e).length = 7 := rfl
def nodeOf (e : Ew) : Nd := ⟨{ e.x.ro with depth := 0 }, e.up, e.kids⟩
def OA (w : World) (N : Nat) (x : Cw) : Prop := Of w N 63 2 x.A x.ro.attrs.length x.c (x.ro.attrs.flatMap acells) ∧ Sh x.ro.attrs
def OK (w : World) (N : Nat) (A : Option Addr) (c : Nat) (l : List Nat) : Prop := Of w N 3 1 A l.length c (l.map nv)
def blkOf (A : Option Addr) : Option Nat := A.map Addr.block
theorem Fr.oa {N : Nat} {w : World} {x : Cw} (h : Fr N w x) : OA w N x := ⟨.inl h.1, h.2⟩
/-- No block is that of two of them. -/
def Apart (f : Ew → Option Nat) (l : List Ew) : Prop := l.Pairwise fun a b => ∀ g, f a = some g → f b ≠ some g
def bA (e : Ew) : Option Nat := blkOf e.x.A
def bK (e : Ew) : Option Nat := blkOf e.K

/-- The program's document: all of its blocks are in F, and the call's own from N on. -/
structure PD (w : World) (N : Nat) (F : Nat → Prop) (p : Nat) (M : List Nd) (gE cE : Nat) (lE : List Ew) : Prop where
  box : w.heap[p]? = some (.cells #[.slice (some ⟨gE, 0, none⟩) M.length cE] 74)
  ents : w.ownsRow N 71 7 (.slice (some ⟨gE, 0, none⟩) M.length cE) M.length (lE.flatMap ecells)
  attrs : ∀ e ∈ lE, OA w N e.x ∧ ∀ g, bA e = some g → F g
  kids : ∀ e ∈ lE, OK w N e.K e.kc e.kids ∧ ∀ g, bK e = some g → F g
  apA : Apart bA lE
  apK : Apart bK lE
  same : lE.map nodeOf = M
  low : N ≤ p
  fp : F p
  fe : F gE
  bd : ∀ b, F b → b < w.heap.size
def Doc12 (w : World) (N : Nat) (F : Nat → Prop) (p : Nat) (M : List Nd) : Prop := ∃ gE cE lE, PD w N F p M gE cE lE

theorem ext_nd {M M' : List Nd} (hl : M.length = M'.length) (h : ∀ n, n < M.length → nd M n = nd M' n) : M = M' := by
  apply List.ext_getElem hl
  intro n h1 h2
  have := h n h1
  rwa [nd_at h1, nd_at h2] at this
theorem nd_setL {M : List Nd} {k : Nat} (hk : k < M.length) (y : Nd) (n : Nat) : nd (M.set k y) n = if n = k then y else nd M n := by
  unfold nd
  rw [List.getElem?_set]
  by_cases h : k = n
  · subst h
    rw [if_pos rfl, if_pos hk, if_pos rfl]
    rfl
  · rw [if_neg h, if_neg (fun e => h e.symm)]

section
variable {w w' : World} {N : Nat} {F : Nat → Prop} {p gE cE : Nat} {M : List Nd} {lE : List Ew}
theorem PD.len (h : PD w N F p M gE cE lE) : lE.length = M.length := by rw [← h.same, List.length_map]
theorem PD.p_lt (h : PD w N F p M gE cE lE) : p < w.heap.size := (Array.getElem?_eq_some_iff.1 h.box).1
theorem PD.hN (h : PD w N F p M gE cE lE) : N ≤ w.heap.size := Nat.le_of_lt (Nat.lt_of_le_of_lt h.low h.p_lt)
theorem PD.x (h : PD w N F p M gE cE lE) : w.cell? ⟨p, 0, none⟩ = some (.slice (some ⟨gE, 0, none⟩) M.length cE) := cell_of_row w p 0 _ _ _ h.box
theorem PD.obj (h : PD w N F p M gE cE lE) : N ≤ gE ∧ gE < w.heap.size ∧ M.length ≤ cE ∧ cE ≤ maxLen ∧ ∃ c f, w.heap[gE]? = some (.cells c 71 f) := by
  rcases h.ents.2 with ⟨hv, _⟩ | ⟨g, cap, cur, hv, hg, hh, hn, hm, _⟩
  · cases hv
  · injection hv with h1 h2 h3
    injection h1 with h1
    injection h1 with h1
    subst h1 h3
    exact ⟨hg, (Array.getElem?_eq_some_iff.1 hh).1, hn, hm, _, _, hh⟩
theorem PD.at_ (h : PD w N F p M gE cE lE) {k : Nat} (hk : k < M.length) : ∃ e, lE[k]? = some e ∧ e ∈ lE ∧ nodeOf e = nd M k ∧ ∀ j u, (ecells e)[j]? = some u → w.cell? ⟨gE, k * 7 + j, none⟩ = some u := by
  have hl : k < lE.length := by rw [h.len]; exact hk
  refine ⟨lE[k], List.getElem?_eq_getElem hl, List.getElem_mem hl, ?_, fun j u hu => ?_⟩
  · have h1 : (lE.map nodeOf)[k]? = M[k]? := by rw [h.same]
    rw [List.getElem?_map, List.getElem?_eq_getElem hl, List.getElem?_eq_getElem hk] at h1
    rw [nd_at hk]
    exact Option.some.inj h1
  · have hj : j < 7 := (List.getElem?_eq_some_iff.1 hu).1
    have := World.ownsRow.cells h.ents (g := gE) rfl (k * 7 + j) u (by rw [Ro.flat_at ecells 7 len_ecells _ _ _ hl hj]; exact hu)
    rw [WideShapes.add_plain, Nat.zero_add] at this
    exact this
theorem PD.frz (h : PD w N F p M gE cE lE) (j : Nat) : w.frozen? ⟨gE, j, none⟩ = false := World.ownsRow.frozenAt h.ents j
theorem oa_obj {x : Cw} (h : OA w N x) {g : Nat} (hg : blkOf x.A = some g) : x.A = some ⟨g, 0, none⟩ ∧ N ≤ g ∧ g < w.heap.size ∧ ∃ c f, w.heap[g]? = some (.cells c 63 f) := by
  rcases h.1.obj with ⟨hA, _⟩ | ⟨g', cur, hA, hN, hl, hh, _⟩
  · rw [hA] at hg
    cases hg
  · rw [hA] at hg
    obtain rfl : g' = g := Option.some.inj hg
    exact ⟨hA, hN, hl, _, _, hh⟩
theorem ok_obj {A : Option Addr} {c : Nat} {l : List Nat} (h : OK w N A c l) {g : Nat} (hg : blkOf A = some g) : A = some ⟨g, 0, none⟩ ∧ N ≤ g ∧ g < w.heap.size ∧ ∃ c f, w.heap[g]? = some (.cells c 3 f) := by
  rcases h.obj with ⟨hA, _⟩ | ⟨g', cur, hA, hN, hl, hh, _⟩
  · rw [hA] at hg
    cases hg
  · rw [hA] at hg
    obtain rfl : g' = g := Option.some.inj hg
    exact ⟨hA, hN, hl, _, _, hh⟩
theorem OA.block {x : Cw} (h : OA w N x) (hb : ∀ g, blkOf x.A = some g → w'.heap[g]? = w.heap[g]?) : OA w' N x := ⟨h.1.block fun g hA => hb g (by rw [hA]; rfl), h.2⟩
theorem OK.block {A : Option Addr} {c : Nat} {l : List Nat} (h : OK w N A c l) (hb : ∀ g, blkOf A = some g → w'.heap[g]? = w.heap[g]?) : OK w' N A c l := Of.block h fun g hA => hb g (by rw [hA]; rfl)
theorem PD.touch {G : Nat → Prop} (h : PD w N F p M gE cE lE) (t : Touch G w w') (hd : ∀ b, F b → ¬ G b) : PD w' N F p M gE cE lE := by
  have hk : ∀ b, F b → b < w.heap.size → w'.heap[b]? = w.heap[b]? := fun b hf hb => t.block b hb (hd b hf)
  refine ⟨(hk p h.fp h.p_lt).trans h.box, owns_block h.ents fun g hg => ?_, fun e he => ⟨(h.attrs e he).1.block fun g hg => hk g ((h.attrs e he).2 g hg) (oa_obj (h.attrs e he).1 hg).2.2.1, (h.attrs e he).2⟩, fun e he => ⟨(h.kids e he).1.block fun g hg => hk g ((h.kids e he).2 g hg) (ok_obj (h.kids e he).1 hg).2.2.1, (h.kids e he).2⟩, h.apA, h.apK, h.same, h.low, h.fp, h.fe, fun b hb => Nat.lt_of_lt_of_le (h.bd b hb) t.size⟩
  obtain rfl : gE = g := Option.some.inj hg
  exact hk _ h.fe h.obj.2.1
theorem PD.below (h : PD w N F p M gE cE lE) (hb : Below w.heap.size w w') : PD w' N F p M gE cE lE := h.touch (G := fun _ => False) (Touch.of_below hb) fun _ _ h => h
theorem Doc12.below (h : Doc12 w N F p M) (hb : Below w.heap.size w w') : Doc12 w' N F p M := by
  obtain ⟨gE, cE, lE, h⟩ := h
  exact ⟨gE, cE, lE, h.below hb⟩
theorem Doc12.touch {G : Nat → Prop} (h : Doc12 w N F p M) (t : Touch G w w') (hd : ∀ b, F b → ¬ G b) : Doc12 w' N F p M := by
  obtain ⟨gE, cE, lE, h⟩ := h
  exact ⟨gE, cE, lE, h.touch t hd⟩
theorem apart_set {f : Ew → Option Nat} {F : Nat → Prop} {L : Nat} (hF : ∀ e ∈ lE, ∀ g, f e = some g → g < L) (h : Apart f lE) {k : Nat} {e e' : Ew} (he : lE[k]? = some e) (hn : ∀ g, f e' = some g → f e = some g ∨ L ≤ g) : Apart f (lE.set k e') := by
  unfold Apart at h ⊢
  rw [List.pairwise_iff_getElem] at h ⊢
  intro i j hi hj hij
  rw [List.length_set] at hi hj
  have hkl := (List.getElem?_eq_some_iff.1 he).1
  have hek : lE[k] = e := (List.getElem?_eq_some_iff.1 he).2
  rw [List.getElem_set, List.getElem_set]
  by_cases h1 : k = i
  · subst h1
    rw [if_pos rfl, if_neg (by omega)]
    intro g hg hg2
    rcases hn g hg with hn | hn
    · exact h k j hi hj hij g (by rw [hek]; exact hn) hg2
    · have := hF _ (List.getElem_mem hj) g hg2
      omega
  · by_cases h2 : k = j
    · subst h2
      rw [if_neg h1, if_pos rfl]
      intro g hg hg2
      rcases hn g hg2 with hn | hn
      · exact h i k hi hj hij g hg (by rw [hek]; exact hn)
      · have := hF _ (List.getElem_mem hi) g hg
        omega
    · rw [if_neg h1, if_neg h2]
      exact h i j hi hj hij
theorem apart_at {f : Ew → Option Nat} (h : Apart f lE) {i j : Nat} {a b : Ew} (ha : lE[i]? = some a) (hb : lE[j]? = some b) (hij : i ≠ j) {g : Nat} (hg : f a = some g) : f b ≠ some g := by
  unfold Apart at h
  rw [List.pairwise_iff_getElem] at h
  obtain ⟨hi, rfl⟩ := List.getElem?_eq_some_iff.1 ha
  obtain ⟨hj, rfl⟩ := List.getElem?_eq_some_iff.1 hb
  rcases Nat.lt_or_gt_of_ne hij with h1 | h1
  · exact h i j hi hj h1 g hg
  · exact fun hg2 => h j i hj hi h1 g hg2 hg
/-- One entry changed: in its cells, or in the blocks of its attributes and kids. -/
theorem PD.change (h : PD w N F p M gE cE lE) {k : Nat} {e e' : Ew} (he : lE[k]? = some e) (t : Touch (fun b => b = gE ∨ bA e = some b ∨ bK e = some b) w w')
    (ho : w'.ownsRow N 71 7 (.slice (some ⟨gE, 0, none⟩) M.length cE) M.length ((lE.set k e').flatMap ecells)) (ha : OA w' N e'.x) (hk : OK w' N e'.K e'.kc e'.kids)
    (hA : ∀ g, bA e' = some g → bA e = some g ∨ w.heap.size ≤ g) (hK : ∀ g, bK e' = some g → bK e = some g ∨ w.heap.size ≤ g) :
    PD w' N (Wide w w' F) p (M.set k (nodeOf e')) gE cE (lE.set k e') ∧ Next w w' F (Wide w w' F) := by
  have hem : e ∈ lE := List.mem_of_getElem? he
  obtain ⟨_, hgl, _, _, ce, fe, hoE⟩ := h.obj
  have aA : ∀ b ∈ lE, ∀ g, bA b = some g → g < w.heap.size := fun b hb g hg => (oa_obj (h.attrs b hb).1 hg).2.2.1
  have aK : ∀ b ∈ lE, ∀ g, bK b = some g → g < w.heap.size := fun b hb g hg => (ok_obj (h.kids b hb).1 hg).2.2.1
  have inF : ∀ b, b = gE ∨ bA e = some b ∨ bK e = some b → F b := fun b hb => by
    rcases hb with rfl | hb | hb
    · exact h.fe
    · exact (h.attrs e hem).2 b hb
    · exact (h.kids e hem).2 b hb
  have hpb : w'.heap[p]? = w.heap[p]? := t.block p h.p_lt fun hb => by
    rcases hb with hb | hb | hb
    · rw [← hb] at hoE
      exact type_ne h.box hoE (by decide) rfl
    · obtain ⟨_, _, _, _, _, hh⟩ := oa_obj (h.attrs e hem).1 hb
      exact type_ne h.box hh (by decide) rfl
    · obtain ⟨_, _, _, _, _, hh⟩ := ok_obj (h.kids e hem).1 hb
      exact type_ne h.box hh (by decide) rfl
  have other : ∀ b ∈ lE.set k e', b = e' ∨ ∃ j, j ≠ k ∧ lE[j]? = some b := fun b hb => by
    obtain ⟨j, hj, rfl⟩ := List.getElem_of_mem hb
    rw [List.length_set] at hj
    by_cases hjk : j = k
    · subst hjk
      left
      rw [List.getElem_set, if_pos rfl]
    · right
      refine ⟨j, hjk, ?_⟩
      rw [List.getElem_set, if_neg (fun e => hjk e.symm), List.getElem?_eq_getElem hj]
  refine ⟨⟨?_, ?_, fun b hb => ?_, fun b hb => ?_, ?_, ?_, ?_, h.low, .inl h.fp, .inl h.fe, fun b hb => ?_⟩, ⟨?_, fun b hb => .inl hb, fun b hb => hb⟩⟩
  · rw [List.length_set]
    exact hpb.trans h.box
  · rw [List.length_set]
    exact ho
  · rcases other b hb with rfl | ⟨j, hjk, hj⟩
    · refine ⟨ha, fun g hg => ?_⟩
      rcases hA g hg with h1 | h1
      · exact .inl ((h.attrs e hem).2 g h1)
      · exact .inr ⟨h1, (oa_obj ha hg).2.2.1⟩
    · have hm := List.mem_of_getElem? hj
      refine ⟨(h.attrs b hm).1.block fun g hg => t.block g (aA b hm g hg) fun hb2 => ?_, fun g hg => .inl ((h.attrs b hm).2 g hg)⟩
      obtain ⟨_, _, _, _, _, hh⟩ := oa_obj (h.attrs b hm).1 hg
      rcases hb2 with hb2 | hb2 | hb2
      · rw [← hb2] at hoE
        exact type_ne hh hoE (by decide) rfl
      · exact apart_at h.apA he hj (fun e => hjk e.symm) hb2 hg
      · obtain ⟨_, _, _, _, _, hh2⟩ := ok_obj (h.kids e hem).1 hb2
        exact type_ne hh hh2 (by decide) rfl
  · rcases other b hb with rfl | ⟨j, hjk, hj⟩
    · refine ⟨hk, fun g hg => ?_⟩
      rcases hK g hg with h1 | h1
      · exact .inl ((h.kids e hem).2 g h1)
      · exact .inr ⟨h1, (ok_obj hk hg).2.2.1⟩
    · have hm := List.mem_of_getElem? hj
      refine ⟨(h.kids b hm).1.block fun g hg => t.block g (aK b hm g hg) fun hb2 => ?_, fun g hg => .inl ((h.kids b hm).2 g hg)⟩
      obtain ⟨_, _, _, _, _, hh⟩ := ok_obj (h.kids b hm).1 hg
      rcases hb2 with hb2 | hb2 | hb2
      · rw [← hb2] at hoE
        exact type_ne hh hoE (by decide) rfl
      · obtain ⟨_, _, _, _, _, hh2⟩ := oa_obj (h.attrs e hem).1 hb2
        exact type_ne hh hh2 (by decide) rfl
      · exact apart_at h.apK he hj (fun e => hjk e.symm) hb2 hg
  · exact apart_set (F := F) aA h.apA he hA
  · exact apart_set (F := F) aK h.apK he hK
  · rw [← h.same, List.map_set]
  · rcases hb with hb | hb
    · exact Nat.lt_of_lt_of_le (h.bd b hb) t.size
    · exact hb.2
  · exact t.mono fun b _ hb => inF b hb
theorem flat_set7 {j : Nat} (hj : j < 7) (u : Value) : ∀ (l : List Ew) (k : Nat) (y : Ew), (∀ h : k < l.length, ecells y = (ecells l[k]).set j u) → k < l.length → (l.flatMap ecells).set (k * 7 + j) u = (l.set k y).flatMap ecells
  | [], k, _, _, h => absurd h (by simp)
  | a :: r, 0, y, hy, h => by
    have hc := hy h
    rw [List.getElem_cons_zero] at hc
    rw [List.flatMap_cons, List.set_cons_zero, List.flatMap_cons, hc, Nat.zero_mul, Nat.zero_add, List.set_append_left _ _ (by rw [len_ecells]; exact hj)]
  | a :: r, k + 1, y, hy, h => by
    have hk : k < r.length := by simpa using h
    rw [List.flatMap_cons, List.set_cons_succ, List.flatMap_cons, List.set_append_right _ _ (by rw [len_ecells]; omega), len_ecells, show (k + 1) * 7 + j - 7 = k * 7 + j from by omega, flat_set7 hj u r k y (fun h' => hy h) hk]
/-- One cell of an entry stored, behind what happened to its own blocks. -/
theorem PD.put (h : PD w N F p M gE cE lE) {k : Nat} {e e' : Ew} (he : lE[k]? = some e) (t : Touch (fun b => bA e = some b ∨ bK e = some b) w w') {j : Nat} (hj : j < 7) (u : Value) (hc : ecells e' = (ecells e).set j u) (ha : OA w' N e'.x) (hk : OK w' N e'.K e'.kc e'.kids)
    (hA : ∀ g, bA e' = some g → bA e = some g ∨ w.heap.size ≤ g) (hK : ∀ g, bK e' = some g → bK e = some g ∨ w.heap.size ≤ g) :
    PD (w'.setCell ⟨gE, k * 7 + j, none⟩ u) N (Wide w (w'.setCell ⟨gE, k * 7 + j, none⟩ u) F) p (M.set k (nodeOf e')) gE cE (lE.set k e') ∧ Next w (w'.setCell ⟨gE, k * 7 + j, none⟩ u) F (Wide w (w'.setCell ⟨gE, k * 7 + j, none⟩ u) F) := by
  have hem : e ∈ lE := List.mem_of_getElem? he
  obtain ⟨hkl, hke⟩ := List.getElem?_eq_some_iff.1 he
  obtain ⟨_, hgl, _, _, ce, fe, hoE⟩ := h.obj
  have hgE : w'.heap[gE]? = w.heap[gE]? := t.block gE hgl fun hb => by
    rcases hb with hb | hb
    · obtain ⟨_, _, _, _, _, hh⟩ := oa_obj (h.attrs e hem).1 hb
      exact type_ne hoE hh (by decide) rfl
    · obtain ⟨_, _, _, _, _, hh⟩ := ok_obj (h.kids e hem).1 hb
      exact type_ne hoE hh (by decide) rfl
  have ho : w'.ownsRow N 71 7 (.slice (some ⟨gE, 0, none⟩) M.length cE) M.length (lE.flatMap ecells) := owns_block h.ents fun g hg => by
    obtain rfl : gE = g := Option.some.inj hg
    exact hgE
  have hoE' := hgE.trans hoE
  have h1 := (World.ownsRow.stored ho (k * 7 + j) u).1
  rw [flat_set7 hj u lE k e' (fun _ => by rw [hke]; exact hc) hkl] at h1
  refine h.change he (w' := w'.setCell ⟨gE, k * 7 + j, none⟩ u) ?_ h1 (ha.block fun g hg => Below.heap_setCell _ _ _ _ fun e2 => ?_) (hk.block fun g hg => Below.heap_setCell _ _ _ _ fun e2 => ?_) hA hK
  · exact (t.mono (G := fun b => b = gE ∨ bA e = some b ∨ bK e = some b) fun b _ hb => .inr hb).trans (Touch.set (F := fun b => b = gE ∨ bA e = some b ∨ bK e = some b) w' ⟨gE, k * 7 + j, none⟩ u (.inl rfl)) fun _ _ h => h
  · obtain ⟨_, _, _, _, _, hh⟩ := oa_obj ha hg
    have e2 : g = gE := e2
    rw [← e2] at hoE'
    exact type_ne hh hoE' (by decide) rfl
  · obtain ⟨_, _, _, _, _, hh⟩ := ok_obj hk hg
    have e2 : g = gE := e2
    rw [← e2] at hoE'
    exact type_ne hh hoE' (by decide) rfl
end
end Go.Proofs.Ytmlchbohijolaaa.Ar

namespace Go.Proofs.Ytmlchbohijolaaa.Ar
set_option maxRecDepth 100000
set_option linter.unusedSimpArgs false
set_option linter.unusedVariables false
open Go.RowKit Ba
open Ro (At Ro Cw ros Rr Ow Nw Fr Att Ap Sh Ra cells acells app_num below_new infoI info_row len_cells)
open Na (mayB)
def hasB (M : List Nd) (n : Int) : Bool := decide (0 ≤ n) && decide (n < M.length)
def movB (M : List Nd) (n : Int) : Bool := decide (n ≠ 0) && hasB M n
def holdB (M : List Nd) (n : Int) : Bool := movB M n && decide ((nd M n.toNat).ro.kind ≠ 0)
theorem hasB_iff {M : List Nd} {n : Int} : hasB M n = true ↔ 0 ≤ n ∧ n < M.length := by
  unfold hasB
  rw [Bool.and_eq_true, decide_eq_true_iff, decide_eq_true_iff]
theorem movB_iff {M : List Nd} {n : Int} : movB M n = true ↔ 0 < n ∧ n < M.length := by
  unfold movB
  rw [Bool.and_eq_true, decide_eq_true_iff, hasB_iff]
  omega
theorem elB_mov {M : List Nd} {n : Int} : elB11 M n = (movB M n && decide ((nd M n.toNat).ro.kind = 0)) := by
  unfold elB11
  congr 1
  rw [Bool.eq_iff_iff, movB_iff, Bool.and_eq_true, decide_eq_true_iff, decide_eq_true_iff]
section
variable {w : World} {N : Nat} {F : Nat → Prop} {p gE cE : Nat} {M : List Nd} {lE : List Ew}
theorem len1 (w : World) (D : PD w N F p M gE cE lE) : Calls Try.prog 24 #[.pointer (some ⟨p, 0, none⟩)] w fun e w' => e = .returned (.int .i64 M.length) ∧ w' = w := by
  have hx := D.x
  clear D
  go_enter Try.func24, Try.ntmps24
  go_wp2
  go_ret
  exact ⟨rfl, rfl⟩
theorem exceeds1 (more : Nat) (w : World) (D : PD w N F p M gE cE lE) (hm : M.length ≤ 10000) (hk : more ≤ 1000000) (q : Bool) (hq : decide (4096 < M.length + more) = q) : Calls Try.prog 40 #[.pointer (some ⟨p, 0, none⟩), .int .i64 more] w fun e w' => e = .returned (.bool q) ∧ w' = w := by
  have hx := D.x
  clear D
  by_cases hb : 4096 < M.length + more
  · rw [decide_eq_true hb] at hq
    subst hq
    go_enter Try.func40, Try.ntmps40
    go_wp2
    go_ret
    exact ⟨ret_bool (by first | rfl | (simp; omega)), rfl⟩
  · rw [decide_eq_false hb] at hq
    subst hq
    go_enter Try.func40, Try.ntmps40
    go_wp2
    go_ret
    exact ⟨ret_bool (by first | rfl | (simp; omega)), rfl⟩
theorem has1 (n : Int) (w : World) (D : PD w N F p M gE cE lE) (q : Bool) (hq : hasB M n = q) : Calls Try.prog 58 #[.pointer (some ⟨p, 0, none⟩), .int .i64 n] w fun e w' => e = .returned (.bool q) ∧ w' = w := by
  have hx := D.x
  clear D
  subst hq
  by_cases h0 : 0 ≤ n
  · by_cases h1 : n < M.length
    · rw [hasB_iff.2 ⟨h0, h1⟩]
      go_enter Try.func58, Try.ntmps58
      go_wp2
      go_ret
      exact ⟨rfl, rfl⟩
    · have e : hasB M n = false := by rw [← Bool.not_eq_true, hasB_iff]; omega
      rw [e]
      go_enter Try.func58, Try.ntmps58
      go_wp2
      go_ret
      exact ⟨rfl, rfl⟩
  · have e : hasB M n = false := by rw [← Bool.not_eq_true, hasB_iff]; omega
    rw [e]
    go_enter Try.func58, Try.ntmps58
    go_wp2
    go_ret
    exact ⟨rfl, rfl⟩
theorem movable1 (n : Int) (w : World) (D : PD w N F p M gE cE lE) (q : Bool) (hq : movB M n = q) : Calls Try.prog 42 #[.pointer (some ⟨p, 0, none⟩), .int .i64 n] w fun e w' => e = .returned (.bool q) ∧ w' = w := by
  subst hq
  have HH := Lib.hid (has1 n w D _ rfl)
  clear D
  by_cases h0 : n = 0
  · subst h0
    have e : movB M 0 = false := by rw [← Bool.not_eq_true, movB_iff]; omega
    rw [e]
    clear HH
    go_enter Try.func42, Try.ntmps42
    go_wp2
    go_ret
    exact ⟨rfl, rfl⟩
  · have e : movB M n = hasB M n := by unfold movB; rw [decide_eq_true h0]; rfl
    rw [e]
    clear e
    obtain ⟨q, hq⟩ : ∃ q, hasB M n = q := ⟨_, rfl⟩
    rw [hq] at HH ⊢
    clear hq
    go_enter Try.func42, Try.ntmps42
    go_wp2_with fail
    refine HH.out.mono ?_
    rintro e w1 ⟨rfl, rfl⟩
    go_wp2
    go_ret
    exact ⟨ret_bool (by simp [h0]), rfl⟩
theorem PD.kindAt (D : PD w N F p M gE cE lE) {k : Nat} (hk : k < M.length) : w.cell? ⟨gE, k * 7 + 1, none⟩ = some (.int .i64 (nd M k).ro.kind) := by
  obtain ⟨e, _, _, hn, hc⟩ := D.at_ hk
  rw [← hn]
  exact hc 1 _ rfl
theorem PD.upAt (D : PD w N F p M gE cE lE) {k : Nat} (hk : k < M.length) : w.cell? ⟨gE, k * 7 + 5, none⟩ = some (.int .i64 (nd M k).up) := by
  obtain ⟨e, _, _, hn, hc⟩ := D.at_ hk
  rw [← hn]
  exact hc 5 _ rfl
theorem element1 (n : Int) (w : World) (D : PD w N F p M gE cE lE) (q : Bool) (hq : elB11 M n = q) : Calls Try.prog 44 #[.pointer (some ⟨p, 0, none⟩), .int .i64 n] w fun e w' => e = .returned (.bool q) ∧ w' = w := by
  subst hq
  have HH := Lib.hid (movable1 n w D _ rfl)
  have hx := D.x
  rw [elB_mov]
  cases hmv : movB M n with
  | false =>
    rw [hmv] at HH
    clear D hmv hx
    go_enter Try.func44, Try.ntmps44
    go_wp2_with fail
    refine HH.out.mono ?_
    rintro e w1 ⟨rfl, rfl⟩
    go_wp2
    go_ret
    exact ⟨rfl, rfl⟩
  | true =>
    rw [hmv] at HH
    obtain ⟨h0, h1⟩ := movB_iff.1 hmv
    obtain ⟨k, rfl⟩ : ∃ k : Nat, n = k := ⟨n.toNat, by omega⟩
    have hkd := D.kindAt (k := k) (by omega)
    have hcap := D.obj.2.2.1
    obtain ⟨kd, hkk⟩ : ∃ kd, (nd M k).ro.kind = kd := ⟨_, rfl⟩
    rw [show (nd M ((k : Int).toNat)).ro.kind = kd from hkk]
    rw [hkk] at hkd
    clear D hmv hkk
    by_cases hz : kd = 0
    · have ez : (kd == 0) = true := by simpa using hz
      subst hz
      go_enter Try.func44, Try.ntmps44
      go_wp2_with fail
      refine HH.out.mono ?_
      rintro e w1 ⟨rfl, rfl⟩
      go_wp2
      go_ret
      exact ⟨rfl, rfl⟩
    · have ez : (kd == 0) = false := by simpa using hz
      have e : (true && decide (kd = 0)) = false := by rw [decide_eq_false hz]; rfl
      rw [e]
      clear e
      go_enter Try.func44, Try.ntmps44
      go_wp2_with fail
      refine HH.out.mono ?_
      rintro e w1 ⟨rfl, rfl⟩
      go_wp2
      go_ret
      exact ⟨ret_bool (by first | rfl | simpa using hz), rfl⟩
theorem holdsData1 (n : Int) (w : World) (D : PD w N F p M gE cE lE) (q : Bool) (hq : holdB M n = q) : Calls Try.prog 63 #[.pointer (some ⟨p, 0, none⟩), .int .i64 n] w fun e w' => e = .returned (.bool q) ∧ w' = w := by
  subst hq
  have HH := Lib.hid (movable1 n w D _ rfl)
  have hx := D.x
  unfold holdB
  cases hmv : movB M n with
  | false =>
    rw [hmv] at HH
    clear D hmv hx
    go_enter Try.func63, Try.ntmps63
    go_wp2_with fail
    refine HH.out.mono ?_
    rintro e w1 ⟨rfl, rfl⟩
    go_wp2
    go_ret
    exact ⟨rfl, rfl⟩
  | true =>
    rw [hmv] at HH
    obtain ⟨h0, h1⟩ := movB_iff.1 hmv
    obtain ⟨k, rfl⟩ : ∃ k : Nat, n = k := ⟨n.toNat, by omega⟩
    have hkd := D.kindAt (k := k) (by omega)
    have hcap := D.obj.2.2.1
    obtain ⟨kd, hkk⟩ : ∃ kd, (nd M k).ro.kind = kd := ⟨_, rfl⟩
    rw [show (nd M ((k : Int).toNat)).ro.kind = kd from hkk]
    rw [hkk] at hkd
    clear D hmv hkk
    by_cases hz : kd = 0
    · have ez : (kd == 0) = true := by simpa using hz
      subst hz
      go_enter Try.func63, Try.ntmps63
      go_wp2_with fail
      refine HH.out.mono ?_
      rintro e w1 ⟨rfl, rfl⟩
      go_wp2
      go_ret
      exact ⟨rfl, rfl⟩
    · have ez : (kd == 0) = false := by simpa using hz
      have e : (true && decide (kd ≠ 0)) = true := by rw [decide_eq_true hz]; rfl
      rw [e]
      clear e
      go_enter Try.func63, Try.ntmps63
      go_wp2_with fail
      refine HH.out.mono ?_
      rintro e w1 ⟨rfl, rfl⟩
      go_wp2
      go_ret
      exact ⟨ret_bool (by first | rfl | simpa using hz), rfl⟩
theorem parent1 (n : Int) (w : World) (D : PD w N F p M gE cE lE) (q : Int) (hq : (if 0 ≤ n ∧ n < M.length then (nd M n.toNat).up else -1) = q) : Calls Try.prog 31 #[.pointer (some ⟨p, 0, none⟩), .int .i64 n] w fun e w' => e = .returned (.int .i64 q) ∧ w' = w := by
  have HH := Lib.hid (has1 n w D _ rfl)
  have hx := D.x
  by_cases h : 0 ≤ n ∧ n < M.length
  · rw [if_pos h] at hq
    have e : hasB M n = true := hasB_iff.2 h
    rw [e] at HH
    obtain ⟨h0, h1⟩ := h
    obtain ⟨k, rfl⟩ : ∃ k : Nat, n = k := ⟨n.toNat, by omega⟩
    have hkd := D.upAt (k := k) (by omega)
    have hcap := D.obj.2.2.1
    rw [show (nd M k).up = q from hq] at hkd
    clear D hq e
    go_enter Try.func31, Try.ntmps31
    go_wp2_with fail
    refine HH.out.mono ?_
    rintro e w1 ⟨rfl, rfl⟩
    go_wp2
    go_ret
    exact ⟨rfl, rfl⟩
  · rw [if_neg h] at hq
    subst hq
    have e : hasB M n = false := by rw [← Bool.not_eq_true, hasB_iff]; exact h
    rw [e] at HH
    clear D e hx
    go_enter Try.func31, Try.ntmps31
    go_wp2_with fail
    refine HH.out.mono ?_
    rintro e w1 ⟨rfl, rfl⟩
    go_wp2
    go_ret
    exact ⟨rfl, rfl⟩
theorem others1 (P n : Nat) (w : World) (D : PD w N F p M gE cE lE) (hP : P < M.length) (hn : n < M.length) (W : Wf M) (hm : M.length ≤ 10000) : Calls Try.prog 64 #[.pointer (some ⟨p, 0, none⟩), .int .i64 P, .int .i64 n] w fun e w' => e = .returned (.int .i64 ((nd M P).kids.filter (· != n)).length) ∧ w' = w := by
  have hx := D.x
  have hup := D.upAt hn
  have hcap := D.obj.2.2.1
  obtain ⟨e, _, _, hne, hc⟩ := D.at_ hP
  have hkc := hc 6 _ rfl
  have hke : e.kids = (nd M P).kids := by rw [← hne]; rfl
  rw [hke] at hkc
  rw [kids_less W hn]
  have hkl : (nd M P).kids.length ≤ M.length := nodup_bound (W.nodup P) fun x hx => ((W.kid P x).1 hx).1
  obtain ⟨ks, hks⟩ : ∃ ks, (nd M P).kids = ks := ⟨_, rfl⟩
  obtain ⟨u, hu⟩ : ∃ u, (nd M n).up = u := ⟨_, rfl⟩
  have hpos : (nd M n).up = (P : Int) → 0 < (nd M P).kids.length := fun h => List.length_pos_of_mem ((W.kid P n).2 ⟨hn, h⟩)
  rw [hks] at hkc hkl hpos ⊢
  rw [hu] at hup hpos ⊢
  clear D hc hne hke hks hu
  by_cases h : u = P
  · rw [if_pos h]
    have hp := hpos h
    subst h
    clear hpos
    go_enter Try.func64, Try.ntmps64
    go_wp2
    go_ret
    exact ⟨rfl, rfl⟩
  · rw [if_neg h]
    have hb : (u == (P : Int)) = false := by simpa using h
    clear hpos
    go_enter Try.func64, Try.ntmps64
    go_wp2
    go_ret
    exact ⟨rfl, rfl⟩
end
end Go.Proofs.Ytmlchbohijolaaa.Ar

namespace Go.Proofs.Ytmlchbohijolaaa.Ar
set_option maxRecDepth 100000
set_option linter.unusedSimpArgs false
set_option linter.unusedVariables false
open Go.RowKit Ba
open Ro (At Ro Cw ros Rr Ow Nw Fr Att Ap Sh Ra cells acells len_acells acells_one app_num below_new infoI info_row info_attr len_cells)
open To (Aw)
/-- append of a list onto nothing. -/
theorem app_nil {ops : Array Oper} {rest : List Oper} {o : Oper} {a : Act} {Q : Exit → Act → World → Prop} (w : World) (hgd : o.guard = none) (sa x : Operand) (T : TypeId)
    (ho : o.op = .call { callee := .builtin .append, args := #[sa, x], argTypes := #[T, T] })
    (t : TypeId) (i : TypeInfo) (z : Value) (s bytes : Nat) (h1 : Try.prog.underlying T = some (.slice t)) (h2 : Try.prog.info? t = some i) (h3 : i.zero = some z) (h4 : i.size = s) (h5 : i.bytes = bytes) (h6 : z.cells.size = s) (h7 : 0 < s)
    (hs : a.eval sa = .slice none 0 0) (A : Option Addr) (n c : Nat) (ys : List Value) (hx : a.eval x = .slice A n c) (hn : ys.length = n * s) (hA : A = none → n = 0 ∧ c = 0) (hc : ∀ ad, A = some ad → ∀ j u, ys[j]? = some u → w.cell? (ad.add j) = some u) (h1c : ∀ u ∈ ys, u.oneCell' = true)
    (b1 : n ≤ maxLen) (b2 : n * bytes ≤ 140737488355328)
    (h : ∀ v' w', w'.ownsRow w.heap.size t s v' n ys → Below w.heap.size w w' → wpList Try.prog ops Q rest (a.put o.dst v') w') :
    wpList Try.prog ops Q (o :: rest) a w := by
  cases A with
  | none =>
    obtain ⟨rfl, rfl⟩ := hA rfl
    have hy : ys = [] := List.eq_nil_of_length_eq_zero (by simpa using hn)
    subst hy
    exact wpList_append_own_none hgd sa x T ho w.heap.size t i s h1 h2 (.slice none 0 0) 0 [] hs (World.ownsRow_nil w _ t s) hx (h _ w (World.ownsRow_nil w _ t s) (Below.refl _ _))
  | some ad =>
    refine wpList_append_own w hgd sa x T ho w.heap.size t i z s bytes h1 h2 h3 h4 h5 h6 h7 (.slice none 0 0) 0 [] hs (World.ownsRow_nil w _ t s) ad n c ys hx hn (hc ad rfl) h1c (by omega) (by rw [Nat.zero_add]; exact b2) (Nat.le_refl _) ?_
    intro v' w' h8 h9 _
    rw [Nat.zero_add, List.nil_append] at h8
    exact h v' w' h8 ((Below.refl _ _).grown h9 (Nat.le_refl _) (by simp [Value.ownBlock]))
theorem nv_one (l : List Nat) : ∀ u ∈ l.map nv, u.oneCell' = true := fun u hu => by
  obtain ⟨y, _, rfl⟩ := List.mem_map.1 hu
  rfl
theorem ecells_one (l : List Ew) : ∀ u ∈ l.flatMap ecells, u.oneCell' = true := fun u hu => by
  obtain ⟨x, _, hu⟩ := List.mem_flatMap.1 hu
  simp only [ecells, List.mem_cons, List.not_mem_nil, or_false] at hu
  rcases hu with rfl | rfl | rfl | rfl | rfl | rfl | rfl <;> rfl
theorem info_ent : (Try.prog.info? 71).map (fun i => (i.zero, i.size, i.bytes)) = some (some (.agg #[.int .i64 0, .int .i64 0, .string .empty, .string .empty, .slice none 0 0, .int .i64 0, .slice none 0 0]), 7, 104) := by kernel_rfl
section
variable {w w' : World} {N s n c : Nat} {t : TypeId} {A : Option Addr} {xs : List Value}
theorem Of.read (h : Of w N t s A n c xs) : (A = none → n = 0 ∧ c = 0) ∧ ∀ ad, A = some ad → ∀ j u, xs[j]? = some u → w.cell? (ad.add j) = some u := by
  constructor
  · intro hA
    rcases h.obj with ⟨_, h8, h9⟩ | ⟨g, cur, hA', _⟩
    · exact ⟨h8, h9⟩
    · rw [hA'] at hA
      cases hA
  · intro ad hA j u hu
    rcases h.obj with ⟨hA', _⟩ | ⟨g, cur, hA', _⟩
    · rw [hA'] at hA
      cases hA
    · rw [hA'] at hA
      cases hA
      rw [WideShapes.add_plain, Nat.zero_add]
      exact (h.cells hA' j u hu).1
end
theorem oa_att {w : World} {N : Nat} {x : Cw} (h : OA w N x) : Att w w.heap.size x := by
  have hc := h.1.cap
  refine ⟨hc.1, fun hA => (h.1.read.1 hA).2, hc.2, fun h0 => ?_, h.2⟩
  rcases h.1.obj with ⟨_, h8, _⟩ | ⟨g, cur, hA, _, hl, _⟩
  · omega
  · refine ⟨g, 0, hA, hl, fun j hj i u hu => ?_⟩
    have hi : i < 2 := (List.getElem?_eq_some_iff.1 hu).1
    have := (h.1.cells hA (j * 2 + i) u (by rw [Ro.flat_at acells 2 len_acells _ _ _ hj hi]; exact hu)).1
    rwa [show 0 + j * 2 + i = j * 2 + i from by omega]
/-- Attributes copied. -/
theorem copiedA1 (x : Cw) (w : World) (h : Att w w.heap.size x) (hl : x.ro.attrs.length ≤ 2000000) :
    Calls Try.prog 37 #[.slice x.A x.ro.attrs.length x.c] w fun e w' => ∃ v, e = .returned v ∧ Aw w.heap.size w' v x.ro.attrs ∧ Below w.heap.size w w' := by
  obtain ⟨i0, hi, hz0, hz1, hz2⟩ := info_parts info_attr
  obtain ⟨l, hll⟩ : ∃ l, x.ro.attrs = l := ⟨_, rfl⟩
  obtain ⟨h1, h2, h3, h4, h5⟩ := h
  rw [hll] at h1 h4 h5 hl ⊢
  have hlen : (l.flatMap acells).length = l.length * 2 := Ro.flat_len acells 2 len_acells l
  have hA : x.A = none → l.length = 0 ∧ x.c = 0 := fun h => by
    have := h2 h
    omega
  have hc : ∀ ad, x.A = some ad → ∀ j u, (l.flatMap acells)[j]? = some u → w.cell? (ad.add j) = some u := fun ad hA j u hu => by
    have hj : j < (l.flatMap acells).length := (List.getElem?_eq_some_iff.1 hu).1
    rw [hlen] at hj
    obtain ⟨b, off, hA', _, hr⟩ := h4 (by omega)
    rw [hA'] at hA
    cases hA
    rw [WideShapes.add_plain]
    have := hr (j / 2) (by omega) (j % 2) u (by rw [← Ro.flat_at acells 2 len_acells _ _ _ (by omega) (Nat.mod_lt _ (by decide)), show j / 2 * 2 + j % 2 = j from by omega]; exact hu)
    rwa [show off + j / 2 * 2 + j % 2 = off + j from by omega] at this
  have HA := Lib.hid hA; have HC := Lib.hid hc; have HL := Lib.hid hlen; have HS := Lib.hid h5
  have b1 : l.length ≤ maxLen := by unfold maxLen; omega
  have b2 : l.length * 32 ≤ 140737488355328 := by omega
  have HO := Lib.hid (acells_one l)
  clear hA hc hlen h5 h4 h2 hll h1 h3
  go_enter Try.func37, Try.ntmps37
  go_wp2_with (at_builtin; refine app_nil w rfl (.const (.slice none 0 0)) (.tmp 3) 61 rfl 63 i0 _ 2 32 Try.underlying61 hi hz0 hz1 hz2 rfl (by decide) rfl x.A l.length x.c (l.flatMap acells) rfl HL.out HA.out HC.out HO.out b1 b2 ?_; intro v' w' h8 h9; have H8 := Lib.hid h8; have H9 := Lib.hid h9; clear h8 h9)
  go_ret
  exact ⟨_, rfl, ⟨H8.out, HS.out⟩, H9.out⟩
/-- Numbers copied. -/
theorem copiedI1 (N : Nat) (A : Option Addr) (c : Nat) (l : List Nat) (w : World) (h : OK w N A c l) (hl : l.length ≤ 2000000) :
    Calls Try.prog 38 #[.slice A l.length c] w fun e w' => ∃ v, e = .returned v ∧ w'.ownsRow w.heap.size 3 1 v l.length (l.map nv) ∧ Below w.heap.size w w' := by
  obtain ⟨i0, hi, hz0, hz1, hz2⟩ := info_parts infoI
  obtain ⟨hA, hc⟩ := Of.read h
  have HA := Lib.hid hA; have HC := Lib.hid hc; have HL := Lib.hid (Of.len h); have HO := Lib.hid (nv_one l)
  have b1 : l.length ≤ maxLen := by unfold maxLen; omega
  have b2 : l.length * 8 ≤ 140737488355328 := by omega
  clear hA hc h
  go_enter Try.func38, Try.ntmps38
  go_wp2_with (at_builtin; refine app_nil w rfl (.const (.slice none 0 0)) (.tmp 3) 28 rfl 3 i0 _ 1 8 Try.underlying28 hi hz0 hz1 hz2 rfl (by decide) rfl A l.length c (l.map nv) rfl HL.out HA.out HC.out HO.out b1 b2 ?_; intro v' w' h8 h9; have H8 := Lib.hid h8; have H9 := Lib.hid h9; clear h8 h9)
  go_ret
  exact ⟨_, rfl, H8.out, H9.out⟩
/-- Entries copied. -/
theorem copiedE1 {N : Nat} {F : Nat → Prop} {p gE cE : Nat} {M : List Nd} {lE : List Ew} (w : World) (D : PD w N F p M gE cE lE) (hl : M.length ≤ 2000000) :
    Calls Try.prog 36 #[.slice (some ⟨gE, 0, none⟩) M.length cE] w fun e w' => ∃ v, e = .returned v ∧ w'.ownsRow w.heap.size 71 7 v M.length (lE.flatMap ecells) ∧ Below w.heap.size w w' := by
  obtain ⟨i0, hi, hz0, hz1, hz2⟩ := info_parts info_ent
  have hof : Of w N 71 7 (some ⟨gE, 0, none⟩) M.length cE (lE.flatMap ecells) := .inl D.ents
  obtain ⟨hA, hc⟩ := hof.read
  have HA := Lib.hid hA; have HC := Lib.hid hc; have HL := Lib.hid hof.len; have HO := Lib.hid (ecells_one lE)
  have b1 : M.length ≤ maxLen := by unfold maxLen; omega
  have b2 : M.length * 104 ≤ 140737488355328 := by omega
  clear hA hc D hof
  go_enter Try.func36, Try.ntmps36
  go_wp2_with (at_builtin; refine app_nil w rfl (.const (.slice none 0 0)) (.tmp 3) 72 rfl 71 i0 _ 7 104 Try.underlying72 hi hz0 hz1 hz2 rfl (by decide) rfl (some ⟨gE, 0, none⟩) M.length cE (lE.flatMap ecells) rfl HL.out HA.out HC.out HO.out b1 b2 ?_; intro v' w' h8 h9; have H8 := Lib.hid h8; have H9 := Lib.hid h9; clear h8 h9)
  go_ret
  exact ⟨_, rfl, H8.out, H9.out⟩
theorem aheadI1 (A : Option Addr) (n c k : Nat) (w : World) (hk : k ≤ n) (hn : n ≤ c) (hc : c ≤ maxLen) :
    Calls Try.prog 83 #[.slice A n c, .int .i64 k] w fun e w' => e = .returned (.slice A k k) ∧ w' = w := by
  have h1 : (k : Int) ≤ c := by omega
  have h2 : (0 : Int) ≤ k := by omega
  go_enter Try.func83, Try.ntmps83
  go_wp2
  go_ret
  exact ⟨rfl, rfl⟩
theorem aheadA1 (A : Option Addr) (n c k : Nat) (w : World) (hk : k ≤ n) (hn : n ≤ c) (hc : c ≤ maxLen) :
    Calls Try.prog 84 #[.slice A n c, .int .i64 k] w fun e w' => e = .returned (.slice A k k) ∧ w' = w := by
  have h1 : (k : Int) ≤ c := by omega
  have h2 : (0 : Int) ≤ k := by omega
  go_enter Try.func84, Try.ntmps84
  go_wp2
  go_ret
  exact ⟨rfl, rfl⟩
end Go.Proofs.Ytmlchbohijolaaa.Ar
