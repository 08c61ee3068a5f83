/-
  Stage 11: the reference's Attr.
  Stage 11: the reference's Drop.
  Stage 11, in plain words: what each call keeps of a document's nodes.
  Stage 11, in plain words: what a script's calls make of a document's nodes.
  Stage 11, in plain words: what a move leaves.
  The laws of stage 4, walked: Normal.
  Stage 4, plain: texts joined: right rows stay right, the same text, joined again they stay.
  Stage 4, plain: a node's tree alone, and the rows without it.
  Stage 4, plain: kids, one behind the other; each row is the kid of its parent alone.
  Stage 11, in plain words: what was loaded is there as it was.
  Stage 11: the laws' trees, nums.
  Stage 11: slices of one's own that may be cut at their end; append onto such.
-/
import Derived.Test.YtfnffplnoicjcaaCk03
import Derived.Test.YtfnffplnoicjcaaCk04
import Derived.Test.YtfnffplnoicjcaaCk02
import Derived.ArgAppend
namespace Go.Proofs.Ytfnffplnoicjcaa.Ar
set_option maxRecDepth 100000
set_option linter.unusedSimpArgs false
set_option linter.unusedVariables false
open Go.RowKit Ba
open Ro (At Ro Cw ros Rr Ow Nw Fr Att Ap Sh Ra cells acells app_num below_new infoI info_row len_cells rowV rowO Few Fits deeper deeper_zero Moved_any)
open To (Aw app_attr)
open Na (mayB)
/-! ### What Attr answers. -/
def atF (nm v : ByteArray) (a : At) : At := if a.name = nm then ⟨a.name, v⟩ else a
def putB (l : List At) (nm : ByteArray) : Bool := l.any fun a => decide (a.name = nm)
def atSet (l : List At) (nm v : ByteArray) : List At := if putB l nm then l.map (atF nm v) else l.map (atF nm v) ++ [(⟨nm, v⟩ : At)]
def attrE11 (M : List Nd) (n : Int) (nm : ByteArray) : Int := if elB11 M n then (if mayB nm true then 0 else 1) else 110
def attrM11 (M : List Nd) (n : Int) (nm v : ByteArray) : List Nd := if elB11 M n && mayB nm true then rowM M n.toNat fun r => { r with attrs := atSet r.attrs nm v } else M
theorem el_nat {M : List Nd} {n : Int} (h : elB11 M n = true) : ∃ k : Nat, n = k ∧ k < M.length ∧ k ≠ 0 ∧ (nd M k).ro.kind = 0 := by
  unfold elB11 at h
  rw [Bool.and_eq_true, Bool.and_eq_true] at h
  obtain ⟨⟨h1, h2⟩, h3⟩ := h
  have h1 := of_decide_eq_true h1
  have h2 := of_decide_eq_true h2
  have h3 := of_decide_eq_true h3
  exact ⟨n.toNat, by omega, by omega, by omega, h3⟩
theorem RD.cellAt {w : World} {N : Nat} {F : Nat → Prop} {p : Nat} {M : List Nd} {rk : List Int} {gX cX gU cU gR cR : Nat} {lX : List Cw} (h : RD w N F p M rk gX cX gU cU gR cR lX) {k : Nat} (hk : k < M.length) {x : Cw} (hx : lX[k]? = some x) : x.ro = (nd M k).ro ∧ Att w w.heap.size x ∧ ∀ j u, (cells x)[j]? = some u → w.cell? ⟨gX, k * 5 + j, none⟩ = some u := by
  obtain ⟨x', h0, h1, h2, h3⟩ := h.cellX hk
  rw [hx] at h0
  obtain rfl := Option.some.inj h0
  exact ⟨h1, h2, h3⟩
theorem att_at {w : World} {x : Cw} (h : Att w w.heap.size x) {j : Nat} (hj : j < x.ro.attrs.length) : ∃ b off, x.A = some ⟨b, off, none⟩ ∧ b < w.heap.size ∧ w.cell? ⟨b, off + j * 2, none⟩ = some (.string x.ro.attrs[j].name) ∧ w.cell? ⟨b, off + j * 2 + 1, none⟩ = some (.string x.ro.attrs[j].value) := by
  obtain ⟨b, off, hA, hb, hc⟩ := h.2.2.2.1 (by omega)
  refine ⟨b, off, hA, hb, ?_, ?_⟩
  · exact hc j hj 0 _ rfl
  · exact hc j hj 1 _ rfl
theorem putB_take {l : List At} {nm : ByteArray} {j : Nat} (hj : j < l.length) : putB (l.take (j + 1)) nm = (putB (l.take j) nm || decide (l[j].name = nm)) := by
  unfold putB
  rw [List.take_add_one, List.getElem?_eq_getElem hj, List.any_append]
  simp
set_option maxRecDepth 100000 in
set_option maxHeartbeats 4000000 in
theorem refAttr11 {p N : Nat} {F : Nat → Prop} {M : List Nd} (n : Int) (nm v : ByteArray) (w : World) (D : Doc11 w N F p M) (W : Wf M) (hm : M.length ≤ 5000) (hf : Few (M.map Nd.ro)) (hs : nm.size ≤ 140737488355328) :
    Calls Try.prog 44 #[.pointer (some ⟨p, 0, none⟩), .int .i64 n, .string nm, .string v] w fun e w' => e = .returned (.int .i64 (attrE11 M n nm)) ∧ ∃ F', Doc11 w' N F' p (attrM11 M n nm v) ∧ Next w w' F F' := by
  have D0 := Lib.hid D
  obtain ⟨rk, gX, cX, gU, cU, gR, cR, lX, D⟩ := D
  have HEL := Lib.hid (refElement1 n w D)
  have HD := Lib.hid D
  have hx := D.rd.x
  have hmay := Na.may_any nm true w hs
  obtain ⟨q, hq⟩ : ∃ q, mayB nm true = q := ⟨_, rfl⟩
  rw [hq] at hmay
  have HM := Lib.hid hmay
  clear hmay D
  unfold attrE11 attrM11
  rw [hq]
  cases he : elB11 M n with
  | false =>
    rw [he] at HEL
    clear he hq
    go_enter Try.func44, Try.ntmps44
    go_wp2_with fail
    refine HEL.out.mono ?_
    rintro e w1 ⟨rfl, rfl⟩
    go_wp2
    go_ret
    exact ⟨rfl, F, D0.out, Next.refl w F⟩
  | true =>
  cases q with
  | false =>
    rw [he] at HEL
    clear he hq
    go_enter Try.func44, Try.ntmps44
    go_wp2_with fail
    refine HEL.out.mono ?_
    rintro e w1 ⟨rfl, rfl⟩
    go_wp2_with fail
    refine HM.out.mono ?_
    rintro e w1 ⟨rfl, rfl⟩
    go_wp2
    go_ret
    exact ⟨rfl, F, D0.out, Next.refl w F⟩
  | true =>
    rw [he] at HEL
    obtain ⟨k, rfl, hk, hk0, _⟩ := el_nat he
    obtain ⟨x, hxk, hxr, hxa, _⟩ := HD.out.cellX hk
    obtain ⟨l, hl⟩ : ∃ l, x.ro.attrs = l := ⟨_, rfl⟩
    have hll : l.length ≤ 1000000 := by
      rw [← hl, hxr, nd_at hk]
      exact hf _ (List.mem_map.2 ⟨_, List.getElem_mem hk, rfl⟩)
    have hsh : Sh l := hl ▸ hxa.2.2.2.2
    have HL := Lib.hid hl; have HXK := Lib.hid hxk; have HXR := Lib.hid hxr; have HSH := Lib.hid hsh
    have hki : (k : Int) < M.length := by omega
    clear he hq hxk hxr hxa hsh hl
    go_enter Try.func44, Try.ntmps44
    go_wp2_with fail
    refine HEL.out.mono ?_
    rintro e w1 ⟨rfl, rfl⟩
    go_wp2_with fail
    refine HM.out.mono ?_
    rintro e w1 ⟨rfl, rfl⟩
    go_wp2
    go_loopw [9, 10, 11] (fun uv pv i wr => ∃ (lv : Value) (j : Nat), lv = uv ∧ i = .int .i64 j ∧ j ≤ l.length ∧ pv = .bool (putB (l.take j) nm) ∧ Aw w.heap.size wr lv ((l.take j).map (atF nm v)) ∧ Below w.heap.size w wr) (fun _ _ i _ => l.length - (intOf i).toNat)
    case atStart => exact ⟨_, 0, rfl, rfl, Nat.zero_le _, rfl, ⟨World.ownsRow_made w #[] 0 (Nat.le_refl _) (Nat.zero_le _) rfl, fun x hx => by cases hx⟩, below_new w _⟩
    case round =>
      obtain ⟨lv, j, rfl, rfl, hj, rfl, haw, hbel⟩ := hrel
      have D1 := HD.out.below hbel
      obtain ⟨_, hxa, hxc⟩ := D1.cellAt hk HXK.out
      have hx1 := D1.rd.x
      have hck := hxc 4 _ rfl
      rw [HL.out] at hck
      by_cases hjl : j < l.length
      · obtain ⟨b, off, hA, hbl, hn0, hv0⟩ := att_at hxa (j := j) (by rw [HL.out]; exact hjl)
        rw [hA] at hck
        have hgt : x.ro.attrs[j]'(by rw [HL.out]; exact hjl) = l[j] := by simp [HL.out]
        rw [hgt] at hn0 hv0
        obtain ⟨a, ha⟩ : ∃ a, l[j] = a := ⟨_, rfl⟩
        rw [ha] at hn0 hv0
        have hji : (j : Int) < l.length := by omega
        have hpt := putB_take (nm := nm) hjl
        rw [ha] at hpt
        have hmt : ((l.take (j + 1)).map (atF nm v)) = (l.take j).map (atF nm v) ++ [atF nm v a] := by
          rw [List.take_add_one, List.getElem?_eq_getElem hjl, ha]
          simp
        have hash : a.name.size ≤ maxLen := HSH.out a (ha ▸ List.getElem_mem hjl)
        have HPT := Lib.hid hpt; have HMT := Lib.hid hmt; have HAS := Lib.hid hash; have HAW := Lib.hid haw; have HBE := Lib.hid hbel
        clear hxa hxc hA hgt ha hpt hmt hash D1 haw hbel
        by_cases hnm : a.name = nm
        · have hd : (a.name.toList == nm.toList) = true := by rw [eq_of_toList]; exact decide_eq_true hnm
          have hat : atF nm v a = ⟨a.name, v⟩ := by unfold atF; rw [if_pos hnm]
          have HAT := Lib.hid hat
          have HA2 := Lib.hid (HAW.out.alloc (.cells #[.string a.name, .string v] 62))
          have hlm : ((l.take j).map (atF nm v)).length ≤ 4000000000 := by rw [List.length_map, List.length_take]; omega
          have hsz2 : w.heap.size ≤ (wr.alloc (.cells #[.string a.name, .string v] 62)).heap.size := by have := HBE.out.size; simp; omega
          have HBW := Lib.hid (bt HBE.out (below_new wr (.cells #[.string a.name, .string v] 62)))
          have HNM := Lib.hid hnm
          clear hat hnm
          go_wp2_with (at_builtin; go_loud (refine app_attr (wr.alloc (.cells #[.string a.name, .string v] 62)) rfl (.tmp 52) (.tmp 54) rfl w.heap.size lv ((l.take j).map (atF nm v)) ⟨a.name, v⟩ rfl HA2.out HAS.out (wr.heap.size + 1) (by simp) rfl hlm hsz2 ?_); intro v7 w7 hw7 hg7; have HW7 := Lib.hid hw7; have HG7 := Lib.hid hg7; clear hw7 hg7)
          go_roundw
          case rel =>
            refine ⟨v7, j + 1, rfl, by go_num, by omega, ?_, by rw [HMT.out, HAT.out]; exact HW7.out, HBW.out.grown HG7.out hsz2 fun b hb => (World.ownsRow.lt HA2.out.1 b hb).1⟩
            rw [HPT.out]
            simp [HNM.out]
          case measure => (simp [intOf]; try omega)
        · have hd : (a.name.toList == nm.toList) = false := by rw [eq_of_toList]; exact decide_eq_false hnm
          have hat : atF nm v a = a := by unfold atF; rw [if_neg hnm]
          have HAT := Lib.hid hat
          have HA2 := Lib.hid (HAW.out.alloc (.cells #[.string a.name, .string a.value] 62))
          have hlm : ((l.take j).map (atF nm v)).length ≤ 4000000000 := by rw [List.length_map, List.length_take]; omega
          have hsz2 : w.heap.size ≤ (wr.alloc (.cells #[.string a.name, .string a.value] 62)).heap.size := by have := HBE.out.size; simp; omega
          have HBW := Lib.hid (bt HBE.out (below_new wr (.cells #[.string a.name, .string a.value] 62)))
          have HNM := Lib.hid hnm
          clear hat hnm
          go_wp2_with (at_builtin; refine app_attr (wr.alloc (.cells #[.string a.name, .string a.value] 62)) rfl (.tmp 52) (.tmp 54) rfl w.heap.size lv ((l.take j).map (atF nm v)) a rfl HA2.out HAS.out (wr.heap.size + 1) (by simp) rfl hlm hsz2 ?_; intro v7 w7 hw7 hg7; have HW7 := Lib.hid hw7; have HG7 := Lib.hid hg7; clear hw7 hg7)
          go_roundw
          case rel =>
            refine ⟨v7, j + 1, rfl, by go_num, by omega, ?_, by rw [HMT.out, HAT.out]; exact HW7.out, HBW.out.grown HG7.out hsz2 fun b hb => (World.ownsRow.lt HA2.out.1 b hb).1⟩
            rw [HPT.out]
            simp [HNM.out]
          case measure => (simp [intOf]; try omega)
      · obtain rfl : j = l.length := by omega
        rw [List.take_length] at haw
        have HAW := Lib.hid haw; have HBE := Lib.hid hbel
        have hlm : (l.map (atF nm v)).length ≤ 4000000000 := by rw [List.length_map]; omega
        have hszr := HBE.out.size
        rw [List.take_length]
        clear hxa hxc D1 haw hbel
        cases hpb : putB l nm with
        | true =>
          have HSET := Lib.hid (show l.map (atF nm v) = atSet l nm v by unfold atSet; rw [if_pos hpb])
          clear hpb
          go_upto_region 16 with (fail)
          obtain ⟨wc, hwc⟩ : ∃ wc, wc = wr := ⟨_, rfl⟩
          subst hwc
          have HAWc := HAW; have HBc := HBE
          obtain ⟨A9, c9, hv9⟩ := HAWc.out.form
          obtain ⟨L9, hL9⟩ : ∃ L9, (l.map (atF nm v)).length = L9 := ⟨_, rfl⟩
          rw [hL9] at hv9
          subst hv9
          have HMV := Lib.hid (moved_doc wc (HD.out.below HBc.out) W hm hf)
          have hxw := (HD.out.below HBc.out).rd.x
          go_wp2_with fail
          refine HMV.out.mono ?_
          rintro e w1 ⟨g, c, l', rfl, hg, ho, hfr, hr, hlen, hb⟩
          have hszc := HBc.out.size
          have hkl : k < l'.length := by omega
          have hcell : w1.cell? ⟨g, k * 5 + 4, none⟩ = some (.slice l'[k].A l'[k].ro.attrs.length l'[k].c) ∧ w1.frozen? ⟨g, k * 5 + 4, none⟩ = false := by
            refine ⟨?_, World.ownsRow.frozenAt ho _⟩
            rw [World.ownsRow.cellAt ho _ (by omega), Ro.flat_at cells 5 Ro.len_cells _ _ _ hkl (by decide)]
            rfl
          obtain ⟨hcell, hfz⟩ := hcell
          obtain ⟨y, hy⟩ : ∃ y : Cw, y = ⟨{ l'[k].ro with attrs := l.map (atF nm v) }, A9, c9⟩ := ⟨_, rfl⟩
          have hyc : cells y = (cells l'[k]).set 4 (.slice A9 L9 c9) := by rw [hy, ← hL9]; rfl
          have hyr : y.ro = (fun r : Ro => { r with attrs := atSet r.attrs nm v }) (nd M k).ro := by
            rw [hy]
            have h0 : (ros l')[k]? = (M.map Nd.ro)[k]? := by rw [hr]
            unfold ros at h0
            rw [List.getElem?_map, List.getElem?_map, List.getElem?_eq_getElem hkl, List.getElem?_eq_getElem hk] at h0
            have h1 : l'[k].ro = (nd M k).ro := by rw [nd_at hk]; exact Option.some.inj h0
            have h2 : (nd M k).ro.attrs = l := by rw [← HXR.out]; exact HL.out
            show (⟨l'[k].ro.depth, l'[k].ro.kind, l'[k].ro.name, l'[k].ro.data, l.map (atF nm v)⟩ : Ro) = ⟨(nd M k).ro.depth, (nd M k).ro.kind, (nd M k).ro.name, (nd M k).ro.data, atSet (nd M k).ro.attrs nm v⟩
            rw [h1, h2, HSET.out]
          have ho' := World.ownsRow.mono ho hszc
          have hfr' : ∀ x ∈ l', Fr w.heap.size w1 x := fun x hx => (hfr x hx).mono hszc
          obtain ⟨s1, s2⟩ := row_stored ho' hfr' hkl (by decide) (.slice A9 L9 c9) hyc
          have hfy : Fr w.heap.size w1 y := by
            have h9 := HAWc.out
            rw [← hL9] at h9
            rw [hy]
            exact ⟨owns_block h9.1 fun b hb' => hb.block b (owns_lt h9.1 hb').2.1, h9.2⟩
          have hfr2 : ∀ x ∈ l'.set k y, Fr w.heap.size (w1.setCell ⟨g, k * 5 + 4, none⟩ (.slice A9 L9 c9)) x := fun x hx => by
            rcases List.mem_or_eq_of_mem_set hx with hx | rfl
            · exact s2 x (hfr' x hx)
            · exact s2 _ hfy
          have hb2 := (bt HBc.out hb).setCell (p := ⟨g, k * 5 + 4, none⟩) (by show w.heap.size ≤ g; omega) (.slice A9 L9 c9)
          have D2 := HD.out.below hb2
          have hp2 := D2.rd.x
          have hpf := box_frozen D2.box 0
          have KEY := Lib.hid (HD.out.newRow (f := fun r => { r with attrs := atSet r.attrs nm v }) (by omega) hk hyr s1 hfr2 hr hb2)
          clear s1 s2 hfr2 hb2 D2 hyc hyr hy ho hfr hr hb HMV hfy ho' hfr' hL9
          go_wp2
          go_ret
          obtain ⟨F', h3, h4⟩ := KEY.out
          exact ⟨rfl, F', h3, h4⟩
        | false =>
          have HSET := Lib.hid (show l.map (atF nm v) ++ [(⟨nm, v⟩ : At)] = atSet l nm v by unfold atSet; rw [if_neg (by rw [hpb]; decide)])
          have hnz : (⟨nm, v⟩ : At).name.size ≤ maxLen := by
            show nm.size ≤ maxLen
            unfold maxLen
            omega
          clear hpb
          go_upto_region 16 with (at_builtin; refine app_attr wr rfl (.tmp 58) (.tmp 62) rfl w.heap.size lv (l.map (atF nm v)) ⟨nm, v⟩ rfl HAW.out hnz _ rfl rfl hlm hszr ?_; intro v9 wc hw9 hg9; have HAWc := Lib.hid hw9; have HBc := Lib.hid (HBE.out.grown hg9 hszr fun b hb => (World.ownsRow.lt HAW.out.1 b hb).1); clear hw9 hg9)
          obtain ⟨A9, c9, hv9⟩ := HAWc.out.form
          obtain ⟨L9, hL9⟩ : ∃ L9, (l.map (atF nm v) ++ [(⟨nm, v⟩ : At)]).length = L9 := ⟨_, rfl⟩
          rw [hL9] at hv9
          subst hv9
          have HMV := Lib.hid (moved_doc wc (HD.out.below HBc.out) W hm hf)
          have hxw := (HD.out.below HBc.out).rd.x
          go_wp2_with fail
          refine HMV.out.mono ?_
          rintro e w1 ⟨g, c, l', rfl, hg, ho, hfr, hr, hlen, hb⟩
          have hszc := HBc.out.size
          have hkl : k < l'.length := by omega
          have hcell : w1.cell? ⟨g, k * 5 + 4, none⟩ = some (.slice l'[k].A l'[k].ro.attrs.length l'[k].c) ∧ w1.frozen? ⟨g, k * 5 + 4, none⟩ = false := by
            refine ⟨?_, World.ownsRow.frozenAt ho _⟩
            rw [World.ownsRow.cellAt ho _ (by omega), Ro.flat_at cells 5 Ro.len_cells _ _ _ hkl (by decide)]
            rfl
          obtain ⟨hcell, hfz⟩ := hcell
          obtain ⟨y, hy⟩ : ∃ y : Cw, y = ⟨{ l'[k].ro with attrs := l.map (atF nm v) ++ [(⟨nm, v⟩ : At)] }, A9, c9⟩ := ⟨_, rfl⟩
          have hyc : cells y = (cells l'[k]).set 4 (.slice A9 L9 c9) := by rw [hy, ← hL9]; rfl
          have hyr : y.ro = (fun r : Ro => { r with attrs := atSet r.attrs nm v }) (nd M k).ro := by
            rw [hy]
            have h0 : (ros l')[k]? = (M.map Nd.ro)[k]? := by rw [hr]
            unfold ros at h0
            rw [List.getElem?_map, List.getElem?_map, List.getElem?_eq_getElem hkl, List.getElem?_eq_getElem hk] at h0
            have h1 : l'[k].ro = (nd M k).ro := by rw [nd_at hk]; exact Option.some.inj h0
            have h2 : (nd M k).ro.attrs = l := by rw [← HXR.out]; exact HL.out
            show (⟨l'[k].ro.depth, l'[k].ro.kind, l'[k].ro.name, l'[k].ro.data, l.map (atF nm v) ++ [(⟨nm, v⟩ : At)]⟩ : Ro) = ⟨(nd M k).ro.depth, (nd M k).ro.kind, (nd M k).ro.name, (nd M k).ro.data, atSet (nd M k).ro.attrs nm v⟩
            rw [h1, h2, HSET.out]
          have ho' := World.ownsRow.mono ho hszc
          have hfr' : ∀ x ∈ l', Fr w.heap.size w1 x := fun x hx => (hfr x hx).mono hszc
          obtain ⟨s1, s2⟩ := row_stored ho' hfr' hkl (by decide) (.slice A9 L9 c9) hyc
          have hfy : Fr w.heap.size w1 y := by
            have h9 := HAWc.out
            rw [← hL9] at h9
            rw [hy]
            exact ⟨owns_block h9.1 fun b hb' => hb.block b (owns_lt h9.1 hb').2.1, h9.2⟩
          have hfr2 : ∀ x ∈ l'.set k y, Fr w.heap.size (w1.setCell ⟨g, k * 5 + 4, none⟩ (.slice A9 L9 c9)) x := fun x hx => by
            rcases List.mem_or_eq_of_mem_set hx with hx | rfl
            · exact s2 x (hfr' x hx)
            · exact s2 _ hfy
          have hb2 := (bt HBc.out hb).setCell (p := ⟨g, k * 5 + 4, none⟩) (by show w.heap.size ≤ g; omega) (.slice A9 L9 c9)
          have D2 := HD.out.below hb2
          have hp2 := D2.rd.x
          have hpf := box_frozen D2.box 0
          have KEY := Lib.hid (HD.out.newRow (f := fun r => { r with attrs := atSet r.attrs nm v }) (by omega) hk hyr s1 hfr2 hr hb2)
          clear s1 s2 hfr2 hb2 D2 hyc hyr hy ho hfr hr hb HMV hfy ho' hfr' hL9
          go_wp2
          go_ret
          obtain ⟨F', h3, h4⟩ := KEY.out
          exact ⟨rfl, F', h3, h4⟩
end Go.Proofs.Ytfnffplnoicjcaa.Ar

namespace Go.Proofs.Ytfnffplnoicjcaa.Ar
set_option maxRecDepth 100000
set_option linter.unusedSimpArgs false
set_option linter.unusedVariables false
open Go.RowKit Ba
open Ro (At Ro Cw ros Rr Ow Nw Fr Att Ap Sh Ra cells acells app_num below_new infoI info_row len_cells rowV rowO Few Fits deeper deeper_zero Moved_any)
open To (Aw app_attr)
/-! ### What Drop answers. -/
def dropL (l : List At) (nm : ByteArray) : List At := l.filter fun a => !decide (a.name = nm)
def dropE11 (M : List Nd) (n : Int) (nm : ByteArray) : Int := if elB11 M n then (if (dropL (nd M n.toNat).ro.attrs nm).length = (nd M n.toNat).ro.attrs.length then 1 else 0) else 110
def dropM11 (M : List Nd) (n : Int) (nm : ByteArray) : List Nd := if elB11 M n && !decide ((dropL (nd M n.toNat).ro.attrs nm).length = (nd M n.toNat).ro.attrs.length) then rowM M n.toNat fun r => { r with attrs := dropL r.attrs nm } else M
theorem dropL_take {l : List At} {nm : ByteArray} {j : Nat} (hj : j < l.length) : dropL (l.take (j + 1)) nm = if l[j].name = nm then dropL (l.take j) nm else dropL (l.take j) nm ++ [l[j]] := by
  unfold dropL
  rw [List.take_add_one, List.getElem?_eq_getElem hj, List.filter_append]
  by_cases h : l[j].name = nm
  · simp [h]
  · simp [h]
set_option maxRecDepth 100000 in
set_option maxHeartbeats 4000000 in
theorem refDrop11 {p N : Nat} {F : Nat → Prop} {M : List Nd} (n : Int) (nm : ByteArray) (w : World) (D : Doc11 w N F p M) (W : Wf M) (hm : M.length ≤ 5000) (hf : Few (M.map Nd.ro)) :
    Calls Try.prog 45 #[.pointer (some ⟨p, 0, none⟩), .int .i64 n, .string nm] w fun e w' => e = .returned (.int .i64 (dropE11 M n nm)) ∧ ∃ F', Doc11 w' N F' p (dropM11 M n nm) ∧ Next w w' F F' := by
  have D0 := Lib.hid D
  obtain ⟨rk, gX, cX, gU, cU, gR, cR, lX, D⟩ := D
  have HEL := Lib.hid (refElement1 n w D)
  have HD := Lib.hid D
  have hx := D.rd.x
  clear D
  unfold dropE11 dropM11
  cases he : elB11 M n with
  | false =>
    rw [he] at HEL
    clear he
    go_enter Try.func45, Try.ntmps45
    go_wp2_with fail
    refine HEL.out.mono ?_
    rintro e w1 ⟨rfl, rfl⟩
    go_wp2
    go_ret
    exact ⟨rfl, F, D0.out, Next.refl w F⟩
  | true =>
    rw [he] at HEL
    obtain ⟨k, rfl, hk, hk0, _⟩ := el_nat he
    obtain ⟨x, hxk, hxr, hxa, _⟩ := HD.out.cellX hk
    obtain ⟨l, hl⟩ : ∃ l, x.ro.attrs = l := ⟨_, rfl⟩
    have hll : l.length ≤ 1000000 := by
      rw [← hl, hxr, nd_at hk]
      exact hf _ (List.mem_map.2 ⟨_, List.getElem_mem hk, rfl⟩)
    have hsh : Sh l := hl ▸ hxa.2.2.2.2
    have hla : (nd M (k : Int).toNat).ro.attrs = l := by rw [← hl, hxr]; rfl
    rw [hla, Bool.true_and, if_pos rfl]
    obtain ⟨E, hE⟩ : ∃ E : Int, (if (dropL l nm).length = l.length then (1 : Int) else 0) = E := ⟨_, rfl⟩
    obtain ⟨MM, hMM⟩ : ∃ MM, (if (!decide ((dropL l nm).length = l.length)) = true then rowM M (k : Int).toNat fun r => { r with attrs := dropL r.attrs nm } else M) = MM := ⟨_, rfl⟩
    rw [hE, hMM]
    have HE := Lib.hid hE; have HMM := Lib.hid hMM
    clear hE hMM
    have HL := Lib.hid hl; have HXK := Lib.hid hxk; have HXR := Lib.hid hxr; have HSH := Lib.hid hsh
    have hki : (k : Int) < M.length := by omega
    clear he hxk hxr hxa hsh hl hla
    go_enter Try.func45, Try.ntmps45
    go_wp2_with fail
    refine HEL.out.mono ?_
    rintro e w1 ⟨rfl, rfl⟩
    go_wp2
    go_loopw [7, 8] (fun uv i wr => ∃ (lv : Value) (j : Nat), lv = uv ∧ i = .int .i64 j ∧ j ≤ l.length ∧ Aw w.heap.size wr lv (dropL (l.take j) nm) ∧ Below w.heap.size w wr) (fun _ i _ => l.length - (intOf i).toNat)
    case atStart => exact ⟨_, 0, rfl, rfl, Nat.zero_le _, ⟨World.ownsRow_made w #[] 0 (Nat.le_refl _) (Nat.zero_le _) rfl, fun x hx => by cases hx⟩, below_new w _⟩
    case round =>
      obtain ⟨lv, j, rfl, rfl, hj, haw, hbel⟩ := hrel
      have D1 := HD.out.below hbel
      obtain ⟨_, hxa, hxc⟩ := D1.cellAt hk HXK.out
      have hx1 := D1.rd.x
      have hck := hxc 4 _ rfl
      rw [HL.out] at hck
      by_cases hjl : j < l.length
      · obtain ⟨b, off, hA, hbl, hn0, hv0⟩ := att_at hxa (j := j) (by rw [HL.out]; exact hjl)
        rw [hA] at hck
        have hgt : x.ro.attrs[j]'(by rw [HL.out]; exact hjl) = l[j] := by simp [HL.out]
        rw [hgt] at hn0 hv0
        have hdt := dropL_take (nm := nm) hjl
        obtain ⟨a, ha⟩ : ∃ a, l[j] = a := ⟨_, rfl⟩
        rw [ha] at hn0 hv0 hdt
        have hji : (j : Int) < l.length := by omega
        have hash : a.name.size ≤ maxLen := HSH.out a (ha ▸ List.getElem_mem hjl)
        have hlm : (dropL (l.take j) nm).length ≤ 4000000000 := by
          have := List.length_filter_le (fun a : At => !decide (a.name = nm)) (l.take j)
          rw [List.length_take] at this
          unfold dropL
          omega
        have hszr := hbel.size
        have HAS := Lib.hid hash; have HAW := Lib.hid haw; have HBE := Lib.hid hbel
        clear hxa hxc hA hgt ha hash D1 haw hbel
        by_cases hnm : a.name = nm
        · have hd : (a.name.toList == nm.toList) = true := by rw [eq_of_toList]; exact decide_eq_true hnm
          rw [if_pos hnm] at hdt
          have HDT := Lib.hid hdt
          clear hdt hnm
          go_wp2
          go_roundw
          case rel => exact ⟨lv, j + 1, rfl, by go_num, by omega, by rw [HDT.out]; exact HAW.out, HBE.out⟩
          case measure => (simp [intOf]; try omega)
        · have hd : (a.name.toList == nm.toList) = false := by rw [eq_of_toList]; exact decide_eq_false hnm
          rw [if_neg hnm] at hdt
          have HDT := Lib.hid hdt
          clear hdt hnm
          go_wp2_with (at_builtin; go_loud (refine app_attr wr rfl (.tmp 42) (.tmp 54) rfl w.heap.size lv (dropL (l.take j) nm) a rfl HAW.out HAS.out _ rfl rfl hlm hszr ?_); intro v7 w7 hw7 hg7; have HW7 := Lib.hid hw7; have HG7 := Lib.hid hg7; clear hw7 hg7)
          go_roundw
          case rel => exact ⟨v7, j + 1, rfl, by go_num, by omega, by rw [HDT.out]; exact HW7.out, HBE.out.grown HG7.out hszr fun b hb => (World.ownsRow.lt HAW.out.1 b hb).1⟩
          case measure => (simp [intOf]; try omega)
      · obtain rfl : j = l.length := by omega
        rw [List.take_length] at haw
        have HAWc := Lib.hid haw; have HBc := Lib.hid hbel
        clear hxa hxc D1 haw hbel
        obtain ⟨wc, hwc⟩ : ∃ wc, wc = wr := ⟨_, rfl⟩
        subst hwc
        obtain ⟨A9, c9, hv9⟩ := HAWc.out.form
        obtain ⟨L9, hL9⟩ : ∃ L9, (dropL l nm).length = L9 := ⟨_, rfl⟩
        rw [hL9] at hv9
        subst hv9
        by_cases hLl : L9 = l.length
        · have HLl := Lib.hid hLl
          have hE := HE.out; have hMM := HMM.out
          rw [hL9, if_pos hLl] at hE
          rw [hL9, if_neg (by simp [hLl])] at hMM
          subst hE hMM
          have hLi : (L9 : Int) = l.length := by omega
          have hLb : ((L9 : Int) == (l.length : Int)) = true := beq_iff_eq.2 hLi
          clear hLl
          go_wp2
          go_ret
          exact ⟨rfl, F, D0.out.below HBc.out, Next.of_below HBc.out⟩
        · have hE := HE.out; have hMM := HMM.out
          rw [hL9, if_neg hLl] at hE
          rw [hL9, if_pos (by simp [hLl])] at hMM
          subst hE hMM
          have hLi : ¬ (L9 : Int) = l.length := by omega
          have hLb : ((L9 : Int) == (l.length : Int)) = false := beq_eq_false_iff_ne.2 hLi
          have HMV := Lib.hid (moved_doc wc (HD.out.below HBc.out) W hm hf)
          have hxw := (HD.out.below HBc.out).rd.x
          go_wp2_with fail
          refine HMV.out.mono ?_
          rintro e w1 ⟨g, c, l', rfl, hg, ho, hfr, hr, hlen, hb⟩
          have hszc := HBc.out.size
          have hkl : k < l'.length := by omega
          have hcell : w1.cell? ⟨g, k * 5 + 4, none⟩ = some (.slice l'[k].A l'[k].ro.attrs.length l'[k].c) ∧ w1.frozen? ⟨g, k * 5 + 4, none⟩ = false := by
            refine ⟨?_, World.ownsRow.frozenAt ho _⟩
            rw [World.ownsRow.cellAt ho _ (by omega), Ro.flat_at cells 5 Ro.len_cells _ _ _ hkl (by decide)]
            rfl
          obtain ⟨hcell, hfz⟩ := hcell
          obtain ⟨y, hy⟩ : ∃ y : Cw, y = ⟨{ l'[k].ro with attrs := dropL l nm }, A9, c9⟩ := ⟨_, rfl⟩
          have hyc : cells y = (cells l'[k]).set 4 (.slice A9 L9 c9) := by rw [hy, ← hL9]; rfl
          have hyr : y.ro = (fun r : Ro => { r with attrs := dropL r.attrs nm }) (nd M k).ro := by
            rw [hy]
            have h0 : (ros l')[k]? = (M.map Nd.ro)[k]? := by rw [hr]
            unfold ros at h0
            rw [List.getElem?_map, List.getElem?_map, List.getElem?_eq_getElem hkl, List.getElem?_eq_getElem hk] at h0
            have h1 : l'[k].ro = (nd M k).ro := by rw [nd_at hk]; exact Option.some.inj h0
            have h2 : (nd M k).ro.attrs = l := by rw [← HXR.out]; exact HL.out
            show (⟨l'[k].ro.depth, l'[k].ro.kind, l'[k].ro.name, l'[k].ro.data, dropL l nm⟩ : Ro) = ⟨(nd M k).ro.depth, (nd M k).ro.kind, (nd M k).ro.name, (nd M k).ro.data, dropL (nd M k).ro.attrs nm⟩
            rw [h1, h2]
          have ho' := World.ownsRow.mono ho hszc
          have hfr' : ∀ x ∈ l', Fr w.heap.size w1 x := fun x hx => (hfr x hx).mono hszc
          obtain ⟨s1, s2⟩ := row_stored ho' hfr' hkl (by decide) (.slice A9 L9 c9) hyc
          have hfy : Fr w.heap.size w1 y := by
            have h9 := HAWc.out
            rw [← hL9] at h9
            rw [hy]
            exact ⟨owns_block h9.1 fun b hb' => hb.block b (owns_lt h9.1 hb').2.1, h9.2⟩
          have hfr2 : ∀ x ∈ l'.set k y, Fr w.heap.size (w1.setCell ⟨g, k * 5 + 4, none⟩ (.slice A9 L9 c9)) x := fun x hx => by
            rcases List.mem_or_eq_of_mem_set hx with hx | rfl
            · exact s2 x (hfr' x hx)
            · exact s2 _ hfy
          have hb2 := (bt HBc.out hb).setCell (p := ⟨g, k * 5 + 4, none⟩) (by show w.heap.size ≤ g; omega) (.slice A9 L9 c9)
          have D2 := HD.out.below hb2
          have hp2 := D2.rd.x
          have hpf := box_frozen D2.box 0
          have KEY := Lib.hid (HD.out.newRow (f := fun r => { r with attrs := dropL r.attrs nm }) (by omega) hk hyr s1 hfr2 hr hb2)
          clear s1 s2 hfr2 hb2 D2 hyc hyr hy ho hfr hr hb HMV hfy ho' hfr' hL9
          go_wp2
          go_ret
          obtain ⟨F', h3, h4⟩ := KEY.out
          exact ⟨rfl, F', h3, h4⟩
end Go.Proofs.Ytfnffplnoicjcaa.Ar

namespace Go.Proofs.Ytfnffplnoicjcaa.Ar
set_option linter.unusedSimpArgs false
set_option linter.unusedVariables false
open Ro (At Ro deeper okRow right rightFrom parent dep hasRow twice Few)
open Na (mayB)
theorem rf_kind : ∀ (l : List Ro) (m : Int), rightFrom m l = true → ∀ (j : Nat) (x y : Ro), l[j + 1]? = some x → l[j]? = some y → y.kind ≠ 0 → x.depth ≤ y.depth
  | [], _, _, j, x, y, hx, _, _ => by simp at hx
  | a :: r, m, h, j, x, y, hx, hy, hk => by
    rw [rightFrom, Bool.and_eq_true, Bool.and_eq_true, Bool.and_eq_true] at h
    obtain ⟨_, h4⟩ := h
    cases j with
    | zero =>
      have hy : a = y := by simpa using hy
      subst hy
      rw [if_neg hk] at h4
      have hx : r[0]? = some x := by simpa using hx
      exact (rf_steps r _ h4 0 x hx).2.1 rfl
    | succ j =>
      exact rf_kind r _ h4 j x y (by simpa using hx) (by simpa using hy) hk
theorem rf_ok : ∀ (l : List Ro) (m : Int), rightFrom m l = true → ∀ x ∈ l, okRow x = true
  | [], _, _, x, hx => by cases hx
  | a :: r, m, h, x, hx => by
    rw [rightFrom, Bool.and_eq_true, Bool.and_eq_true, Bool.and_eq_true] at h
    obtain ⟨⟨_, h3⟩, h4⟩ := h
    rcases List.mem_cons.1 hx with rfl | hx
    · exact h3
    · exact rf_ok r _ h4 x hx
theorem up_spec (l : List Ro) (d : Int) : ∀ (n k : Nat), Ro.up l d n = k → k < n ∧ dep l k < d ∧ ∀ i : Nat, k < i → i < n → d ≤ dep l i
  | 0, k, h => by
    rw [Ro.up] at h
    omega
  | n + 1, k, h => by
    rw [Ro.up] at h
    by_cases hd : dep l n < d
    · rw [if_pos hd] at h
      obtain rfl : n = k := by omega
      exact ⟨Nat.lt_succ_self _, hd, fun i h1 h2 => by omega⟩
    · rw [if_neg hd] at h
      obtain ⟨h1, h2, h3⟩ := up_spec l d n k h
      refine ⟨by omega, h2, fun i h4 h5 => ?_⟩
      by_cases e : i = n
      · subst e
        omega
      · exact h3 i h4 (by omega)
theorem parent_kind {l : List Ro} (h : right l = true) {j k : Nat} (hj : j < l.length) (hp : parI l j = k) : ∃ y, l[k]? = some y ∧ y.kind = 0 := by
  have hh : hasRow l (j : Nat) = true := by
    unfold hasRow
    exact decide_eq_true ⟨by omega, by omega⟩
  unfold parI parent at hp
  rw [if_pos hh, Int.toNat_natCast] at hp
  obtain ⟨h1, h2, h3⟩ := up_spec l _ j k hp
  have hkl : k < l.length := by omega
  refine ⟨l[k], List.getElem?_eq_getElem hkl, ?_⟩
  apply Decidable.byContradiction
  intro hk
  have h4 := rf_kind l 0 h k l[k + 1] l[k] (List.getElem?_eq_getElem (by omega)) (List.getElem?_eq_getElem hkl) hk
  rw [Ro.dep_at (List.getElem?_eq_getElem hkl)] at h2
  by_cases e : k + 1 = j
  · subst e
    rw [Ro.dep_at (List.getElem?_eq_getElem hj)] at h2
    omega
  · have h5 := h3 (k + 1) (by omega) (by omega)
    rw [Ro.dep_at (List.getElem?_eq_getElem (by omega : k + 1 < l.length))] at h5
    omega
theorem ro_add (M : List Nd) (x : Ro) : (addM M x).map Nd.ro = M.map Nd.ro ++ [{ x with depth := 0 }] := by
  unfold addM
  rw [List.map_append]
  rfl
theorem load_ro (l : List Ro) (par : Nat → Int) (M : List Nd) (first : Nat) : ∀ i, i ≤ l.length → (loadTo first l par M i).map Nd.ro = M.map Nd.ro ++ (l.take i).map (fun x => { x with depth := 0 })
  | 0, _ => by simp [loadTo]
  | i + 1, hi => by
    have ih := load_ro l par M first i (by omega)
    have hg : (l[i]?).getD ⟨0, 0, ⟨#[]⟩, ⟨#[]⟩, []⟩ = l[i] := by
      rw [List.getElem?_eq_getElem (by omega)]
      rfl
    have ht : l.take (i + 1) = l.take i ++ [l[i]] := by
      rw [List.take_add_one, List.getElem?_eq_getElem (by omega)]
      rfl
    rw [loadTo]
    split
    · rw [ro_add, ih, hg, ht, List.map_append, List.append_assoc]
      rfl
    · rw [ro_set, ro_add, ih, hg, ht, List.map_append, List.append_assoc]
      rfl
theorem nd_ro {M : List Nd} {L : List Ro} (h : M.map Nd.ro = L) {n : Nat} {x : Ro} (hx : L[n]? = some x) : (nd M n).ro = x := by
  rw [← h, List.getElem?_map] at hx
  cases hm : M[n]? with
  | none =>
    rw [hm] at hx
    cases hx
  | some y =>
    rw [hm] at hx
    unfold nd
    rw [hm]
    exact Option.some.inj hx
/-- What the nodes of a document keep: well-formed, right but for the root, few attributes. -/
structure Inv (B : Nat) (M : List Nd) : Prop where
  wf : Wf M
  good : Good M
  lim : ∀ x ∈ M.map Nd.ro, x.attrs.length ≤ B
  root : (nd M 0).ro = ro00
theorem Inv.few {B : Nat} {M : List Nd} (h : Inv B M) (hB : B ≤ 1000000) : Few (M.map Nd.ro) := fun x hx => Nat.le_trans (h.lim x hx) hB
theorem Inv.more {B C : Nat} {M : List Nd} (h : Inv B M) (hB : B ≤ C) : Inv C M := ⟨h.wf, h.good, fun x hx => Nat.le_trans (h.lim x hx) hB, h.root⟩
theorem inv_M0 : Inv 0 M0 := by
  refine ⟨wf_M0, ⟨fun k h0 hk => ?_, fun p _ h => ?_⟩, fun x hx => ?_, rfl⟩
  · have : M0.length = 1 := rfl
    omega
  · rw [nd_M0]
    split <;> rfl
  · have hx : x = ro00 := by simpa [M0] using hx
    rw [hx]
    exact Nat.le_refl _
theorem Inv.add {B : Nat} {M : List Nd} (h : Inv B M) {x : Ro} (hx : okRow x = true) (ha : x.attrs.length ≤ B) : Inv B (addM M x) := by
  refine ⟨h.wf.add x, h.good.add h.wf hx, fun y hy => ?_, ?_⟩
  · rw [ro_add] at hy
    rcases List.mem_append.1 hy with hy | hy
    · exact h.lim y hy
    · rw [List.mem_singleton.1 hy]
      exact ha
  · have := h.wf.pos
    rw [nd_add, if_neg (by omega)]
    exact h.root
theorem Inv.take {B : Nat} {M : List Nd} (h : Inv B M) (n : Nat) : Inv B (takeOut M n) := ⟨h.wf.take n, h.good.take n, fun y hy => h.lim y (by rw [ro_take] at hy; exact hy), by rw [nd_take]; exact h.root⟩
theorem Inv.set {B : Nat} {M : List Nd} (h : Inv B M) {p n : Nat} (hp : p < M.length) (hn : n < M.length) (h0 : n ≠ 0) (hu : ¬ Up M p n) (hk : p ≠ 0 → (nd M p).ro.kind = 0) (i : Nat) : Inv B (setM M p i n) :=
  ⟨h.wf.set hp hn h0 hu i, h.good.set hp hn hk i, fun y hy => h.lim y (by rw [ro_set] at hy; exact hy), by rw [nd_set hp hn]; exact h.root⟩
theorem Inv.row {B C : Nat} {M : List Nd} (h : Inv B M) {n : Nat} (hn : n < M.length) (h0 : n ≠ 0) {f : Ro → Ro} (hd : (f (nd M n).ro).depth = 0) (hf : okRow (f (nd M n).ro) = true) (hk : (f (nd M n).ro).kind = (nd M n).ro.kind) (hB : B ≤ C) (ha : (f (nd M n).ro).attrs.length ≤ C) : Inv C (rowM M n f) := by
  refine ⟨h.wf.row hn hd, h.good.row_ hn hf hk, fun y hy => ?_, ?_⟩
  · rw [ro_row] at hy
    rcases List.mem_or_eq_of_mem_set hy with hy | rfl
    · exact Nat.le_trans (h.lim y hy) hB
    · exact ha
  · rw [nd_row hn, if_neg (fun e => h0 e.symm)]
    exact h.root
theorem Inv.load {B : Nat} {M : List Nd} (h : Inv B M) {l : List Ro} (hR : right l = true) (ha : ∀ x ∈ l, x.attrs.length ≤ B) : ∀ i, i ≤ l.length → Inv B (loadTo M.length l (parI l) M i)
  | 0, _ => h
  | i + 1, hi => by
    have ih := h.load hR ha i (by omega)
    have hlen := load_len M.length l (parI l) M i
    have hg : (l[i]?).getD ⟨0, 0, ⟨#[]⟩, ⟨#[]⟩, []⟩ = l[i] := by
      rw [List.getElem?_eq_getElem (by omega)]
      rfl
    have hA := ih.add (x := l[i]) (rf_ok l 0 hR _ (List.getElem_mem _)) (ha _ (List.getElem_mem _))
    have hpos := h.wf.pos
    rw [loadTo, hg]
    by_cases hp : parI l i < 0
    · rw [if_pos hp]
      exact hA
    · rw [if_neg hp]
      obtain ⟨k, hk⟩ : ∃ k : Nat, parI l i = k := ⟨(parI l i).toNat, by omega⟩
      have hki := (par_lt l (j := i) (by omega)).1
      rw [hk] at hki ⊢
      rw [Int.toNat_natCast]
      obtain ⟨y, hy, hy0⟩ := parent_kind hR (by omega) hk
      refine hA.set ?_ ?_ ?_ ?_ (fun _ => ?_) _
      · rw [len_add, hlen]
        omega
      · rw [len_add, hlen]
        omega
      · omega
      · intro hu
        have := up_alone hA.wf (by rw [nd_add, if_pos hlen.symm]) hu
        omega
      · have h1 : ((addM (loadTo M.length l (parI l) M i) l[i]).map Nd.ro)[M.length + k]? = some { y with depth := 0 } := by
          rw [ro_add, load_ro l (parI l) M M.length i (by omega), List.append_assoc, List.getElem?_append_right (by rw [List.length_map]; omega), List.length_map, Nat.add_sub_cancel_left, List.getElem?_append_left (by rw [List.length_map, List.length_take]; omega), List.getElem?_map, List.getElem?_take, if_pos (by omega), hy]
          rfl
        rw [nd_ro rfl h1]
        exact hy0
end Go.Proofs.Ytfnffplnoicjcaa.Ar

namespace Go.Proofs.Ytfnffplnoicjcaa.Ar
set_option linter.unusedSimpArgs false
set_option linter.unusedVariables false
open Go.RowKit Ba
open Ro (At Ro Cw ros deeper okRow right rightFrom parent dep hasRow twice Few check)
open Na (mayB)
theorem twice_iff : ∀ (l : List At), twice l = false ↔ l.Pairwise (fun a b => b.name ≠ a.name)
  | [] => ⟨fun _ => List.Pairwise.nil, fun _ => rfl⟩
  | a :: r => by
    rw [twice, Bool.or_eq_false_iff, List.pairwise_cons, twice_iff r, List.any_eq_false]
    constructor
    · rintro ⟨h1, h2⟩
      exact ⟨fun b hb e => h1 b hb (decide_eq_true e), h2⟩
    · rintro ⟨h1, h2⟩
      exact ⟨fun b hb e => h1 b hb (of_decide_eq_true e), h2⟩
theorem atF_name (nm v : ByteArray) (a : At) : (atF nm v a).name = a.name := by
  unfold atF
  split <;> rfl
theorem put_iff {nm : ByteArray} {l : List At} : putB l nm = true ↔ ∃ a ∈ l, a.name = nm := by
  unfold putB
  rw [List.any_eq_true]
  constructor
  · rintro ⟨a, h1, h2⟩
    exact ⟨a, h1, of_decide_eq_true h2⟩
  · rintro ⟨a, h1, h2⟩
    exact ⟨a, h1, decide_eq_true h2⟩
theorem twice_set {l : List At} (nm v : ByteArray) (h : twice l = false) : twice (atSet l nm v) = false := by
  rw [twice_iff] at h
  have hm : (l.map (atF nm v)).Pairwise (fun a b => b.name ≠ a.name) := by
    rw [List.pairwise_map]
    exact h.imp fun {a b} h => by rw [atF_name, atF_name]; exact h
  unfold atSet
  by_cases hp : putB l nm = true
  · rw [if_pos hp, twice_iff]
    exact hm
  · rw [if_neg hp, twice_iff, List.pairwise_append]
    refine ⟨hm, List.pairwise_singleton _ _, fun a ha b hb e => ?_⟩
    rw [List.mem_singleton] at hb
    subst hb
    obtain ⟨a', h1, rfl⟩ := List.mem_map.1 ha
    rw [atF_name] at e
    exact hp (put_iff.2 ⟨a', h1, e.symm⟩)
theorem twice_drop {l : List At} (nm : ByteArray) (h : twice l = false) : twice (dropL l nm) = false := by
  rw [twice_iff] at h ⊢
  exact h.sublist List.filter_sublist
theorem ok_el {x : Ro} (hk : x.kind = 0) : okRow x = (!x.name.toList.isEmpty && x.data.toList.isEmpty && !twice x.attrs) := by
  unfold okRow
  rw [if_pos (by rw [hk]; rfl)]
theorem ok_other {x : Ro} (hk : x.kind ≠ 0) : okRow x = ((x.kind == 1 || x.kind == 2) && x.name.toList.isEmpty && (x.attrs.length : Int) == 0) := by
  unfold okRow
  rw [if_neg (by simpa using hk)]
theorem set_len (l : List At) (nm v : ByteArray) : (atSet l nm v).length ≤ l.length + 1 := by
  unfold atSet
  split
  · rw [List.length_map]
    omega
  · rw [List.length_append, List.length_map, List.length_singleton]
    omega

/-- A call of a script, as a value. -/
structure Op11 where
  kind : Int
  node : Int
  other : Int
  at_ : Int
  what : Int
  name : ByteArray
  value : ByteArray
  x : List Cw
  A : Option Addr
  c : Nat
def cut12 (l : List Ro) : List Ro := (l.take 12).map fun r => { r with attrs := r.attrs.take 4 }
theorem cut12_len (l : List Ro) : (cut12 l).length ≤ 12 := by
  unfold cut12
  rw [List.length_map, List.length_take]
  omega
theorem cut12_attrs (l : List Ro) : ∀ x ∈ cut12 l, x.attrs.length ≤ 4 := fun x hx => by
  obtain ⟨y, _, rfl⟩ := List.mem_map.1 hx
  rw [List.length_take]
  omega
noncomputable def loadM (M : List Nd) (l : List Ro) : List Nd := if loadE M l = 0 then loadTo M.length l (parI l) M l.length else M
def remM (M : List Nd) (n : Int) : List Nd := if 1 ≤ n ∧ n < M.length then takeOut M n.toNat else M
noncomputable def opM (M : List Nd) (o : Op11) : List Nd :=
  if o.kind = 0 then makeM M o.what o.name o.value
  else if o.kind = 1 then loadM M (cut12 (ros o.x))
  else if o.kind = 2 then insM M o.node o.at_ o.other
  else if o.kind = 3 then remM M o.node
  else if o.kind = 4 then cloneM M o.node
  else if o.kind = 5 then attrM11 M o.node o.name o.value
  else if o.kind = 6 then dropM11 M o.node o.name
  else if o.kind = 7 then dataM M o.node o.value
  else M
theorem Inv.make {B : Nat} {M : List Nd} (h : Inv B M) (k : Int) (n d : ByteArray) : Inv B (makeM M k n d) := by
  unfold makeM
  split
  · rename_i hb
    rw [Bool.and_eq_true] at hb
    have hb := hb.1
    refine h.add ?_ (Nat.zero_le _)
    unfold makeB at hb
    rw [Bool.or_eq_true] at hb
    rcases hb with hb | hb
    · rw [Bool.and_eq_true, Bool.and_eq_true] at hb
      obtain ⟨⟨h1, h2⟩, h3⟩ := hb
      have h1 : k = 0 := by simpa using h1
      rw [ok_el (by exact h1)]
      show (!n.toList.isEmpty && d.toList.isEmpty && !twice []) = true
      rw [h3]
      have hne : n.toList.isEmpty = false := by
        rw [← Bool.not_eq_true]
        intro he
        have hz : n.size = 0 := by
          have : n.toList = [] := by simpa using he
          exact Na.nil_size this
        have := Na.may_nil (s := n) false hz
        rw [this] at h2
        cases h2
      rw [hne]
      rfl
    · rw [Bool.and_eq_true, Bool.or_eq_true] at hb
      obtain ⟨h1, h2⟩ := hb
      have hk : k ≠ 0 := by
        intro e
        subst e
        revert h1
        decide
      rw [ok_other (by exact hk)]
      show ((k == 1 || k == 2) && n.toList.isEmpty && ((([] : List At).length : Int) == 0)) = true
      rw [h2, Bool.and_true]
      rcases h1 with h1 | h1
      · rw [h1]
        rfl
      · rw [h1, Bool.or_true]
        rfl
  · exact h
theorem Inv.loadM {B : Nat} {M : List Nd} (h : Inv B M) {l : List Ro} (ha : ∀ x ∈ l, x.attrs.length ≤ B) : Inv B (loadM M l) := by
  unfold Ar.loadM
  split
  · rename_i h0
    refine h.load ?_ ha l.length (Nat.le_refl _)
    unfold loadE at h0
    by_cases hc : check l = 0
    · exact check_right hc
    · rw [if_neg hc] at h0
      exact absurd h0 hc
  · exact h
theorem Inv.ins {B : Nat} {M : List Nd} (h : Inv B M) (P A n : Int) : Inv B (insM M P A n) := by
  unfold insM
  split
  · rename_i h0
    by_cases c1 : P < 0 ∨ (M.length : Int) ≤ P ∨ n < 1 ∨ (M.length : Int) ≤ n
    · rw [(ins_110 c1).1] at h0
      cases h0
    · by_cases c2 : (0 < P ∧ (nd M P.toNat).ro.kind ≠ 0) ∨ Win M P n
      · rw [(ins_111 c1 c2).1] at h0
        cases h0
      · refine h.set (by omega) (by omega) (by omega) (fun hu => c2 (.inr ⟨by omega, by omega, hu⟩)) (fun hp => ?_) _
        apply Decidable.byContradiction
        intro hk
        exact c2 (.inl ⟨by omega, hk⟩)
  · exact h
theorem Inv.rem {B : Nat} {M : List Nd} (h : Inv B M) (n : Int) : Inv B (remM M n) := by
  unfold remM
  split
  · exact h.take _
  · exact h
theorem tree_lim {B : Nat} {M : List Nd} (h : Inv B M) (n : Int) : ∀ x ∈ rowsM M n, x.attrs.length ≤ B := by
  have hn : ∀ m, (nd M m).ro.attrs.length ≤ B := fun m => by
    by_cases hm : m < M.length
    · rw [nd_at hm]
      exact h.lim _ (List.mem_map.2 ⟨_, List.getElem_mem hm, rfl⟩)
    · rw [nd_out hm]
      exact Nat.zero_le _
  intro x hx
  unfold rowsM at hx
  split at hx
  · split at hx
    · obtain ⟨k, _, hx⟩ := List.mem_flatMap.1 hx
      obtain ⟨m, hm⟩ := tree_attrs _ _ _ x hx
      rw [hm]
      exact hn m
    · obtain ⟨m, hm⟩ := tree_attrs _ _ _ x hx
      rw [hm]
      exact hn m
  · cases hx
theorem Inv.clone {B : Nat} {M : List Nd} (h : Inv B M) (n : Int) : Inv B (cloneM M n) := by
  unfold cloneM
  split
  · exact h
  · exact h.load (good_right h.wf h.good n) (tree_lim h n) _ (Nat.le_refl _)
theorem Inv.attr {B : Nat} {M : List Nd} (h : Inv B M) (n : Int) (nm v : ByteArray) : Inv (B + 1) (attrM11 M n nm v) := by
  unfold attrM11
  split
  · rename_i hb
    rw [Bool.and_eq_true] at hb
    obtain ⟨k, rfl, hk, hk0, hkd⟩ := el_nat hb.1
    rw [Int.toNat_natCast]
    have hok := h.good.row k hk0 hk
    rw [ok_el hkd, Bool.and_eq_true] at hok
    have hlim : (nd M k).ro.attrs.length ≤ B := by
      rw [nd_at hk]
      exact h.lim _ (List.mem_map.2 ⟨_, List.getElem_mem hk, rfl⟩)
    refine h.row hk hk0 (h.wf.flat k) ?_ rfl (Nat.le_succ _) ?_
    · rw [ok_el (by exact hkd), Bool.and_eq_true]
      refine ⟨hok.1, ?_⟩
      have := twice_set nm v (l := (nd M k).ro.attrs) (by simpa using hok.2)
      show (!twice (atSet (nd M k).ro.attrs nm v)) = true
      rw [this]
      rfl
    · have := set_len (nd M k).ro.attrs nm v
      show (atSet (nd M k).ro.attrs nm v).length ≤ B + 1
      omega
  · exact h.more (Nat.le_succ _)
theorem Inv.drop {B : Nat} {M : List Nd} (h : Inv B M) (n : Int) (nm : ByteArray) : Inv B (dropM11 M n nm) := by
  unfold dropM11
  split
  · rename_i hb
    rw [Bool.and_eq_true] at hb
    obtain ⟨k, rfl, hk, hk0, hkd⟩ := el_nat hb.1
    rw [Int.toNat_natCast]
    have hok := h.good.row k hk0 hk
    rw [ok_el hkd, Bool.and_eq_true] at hok
    have hlim : (nd M k).ro.attrs.length ≤ B := by
      rw [nd_at hk]
      exact h.lim _ (List.mem_map.2 ⟨_, List.getElem_mem hk, rfl⟩)
    refine h.row hk hk0 (h.wf.flat k) ?_ rfl (Nat.le_refl _) ?_
    · rw [ok_el (by exact hkd), Bool.and_eq_true]
      refine ⟨hok.1, ?_⟩
      have := twice_drop nm (l := (nd M k).ro.attrs) (by simpa using hok.2)
      show (!twice (dropL (nd M k).ro.attrs nm)) = true
      rw [this]
      rfl
    · show (dropL (nd M k).ro.attrs nm).length ≤ B
      exact Nat.le_trans (List.length_filter_le _ _) hlim
  · exact h
theorem Inv.data {B : Nat} {M : List Nd} (h : Inv B M) (n : Int) (d : ByteArray) : Inv B (dataM M n d) := by
  unfold dataM
  split
  · exact h
  · rename_i hc
    have hn1 : n.toNat < M.length := by omega
    have hn0 : n.toNat ≠ 0 := by omega
    have hkd : (nd M n.toNat).ro.kind ≠ 0 := fun e => hc (.inr (.inr e))
    have hok := h.good.row _ hn0 hn1
    rw [ok_other hkd] at hok
    refine h.row hn1 hn0 (h.wf.flat _) ?_ rfl (Nat.le_refl _) ?_
    · rw [ok_other (by exact hkd)]
      exact hok
    · show (nd M n.toNat).ro.attrs.length ≤ B
      rw [nd_at hn1]
      exact h.lim _ (List.mem_map.2 ⟨_, List.getElem_mem hn1, rfl⟩)
theorem Inv.op {B : Nat} {M : List Nd} (h : Inv B M) (hB : 4 ≤ B) (o : Op11) : Inv (B + 1) (opM M o) := by
  unfold opM
  split
  · exact (h.make _ _ _).more (Nat.le_succ _)
  split
  · exact (h.loadM fun x hx => Nat.le_trans (cut12_attrs _ x hx) hB).more (Nat.le_succ _)
  split
  · exact (h.ins _ _ _).more (Nat.le_succ _)
  split
  · exact (h.rem _).more (Nat.le_succ _)
  split
  · exact (h.clone _).more (Nat.le_succ _)
  split
  · exact h.attr _ _ _
  split
  · exact (h.drop _ _).more (Nat.le_succ _)
  split
  · exact (h.data _ _).more (Nat.le_succ _)
  · exact h.more (Nat.le_succ _)
theorem rows_short {M : List Nd} (W : Wf M) (n : Int) : (rowsM M n).length ≤ M.length := by
  unfold rowsM
  split
  · rename_i h
    split
    · have h2 := tr_short W W.pos (-1)
      rw [tr_eq W W.pos, List.length_cons] at h2
      have h3 : ((nd M 0).kids.flatMap fun k => tr M k ((-1 : Int) + 1)) = (nd M 0).kids.flatMap fun k => tr M k 0 := rfl
      rw [h3] at h2
      omega
    · exact tr_short W (by omega) 0
  · exact Nat.zero_le _
theorem loadM_len (M : List Nd) (l : List Ro) : M.length ≤ (loadM M l).length ∧ (loadM M l).length ≤ M.length + l.length := by
  unfold loadM
  split
  · rw [load_len]
    omega
  · omega
theorem makeM_len (M : List Nd) (k : Int) (n d : ByteArray) : M.length ≤ (makeM M k n d).length ∧ (makeM M k n d).length ≤ M.length + 1 := by
  unfold makeM
  split
  · rw [len_add]
    omega
  · omega
theorem insM_len (M : List Nd) (P A n : Int) : (insM M P A n).length = M.length := by
  unfold insM
  split
  · rw [len_set]
  · rfl
theorem remM_len (M : List Nd) (n : Int) : (remM M n).length = M.length := by
  unfold remM
  split
  · rw [len_take]
  · rfl
theorem cloneM_len {M : List Nd} (W : Wf M) (n : Int) : M.length ≤ (cloneM M n).length ∧ (cloneM M n).length ≤ 2 * M.length := by
  have := rows_short W n
  unfold cloneM
  split
  · omega
  · rw [load_len]
    omega
theorem attrM_len (M : List Nd) (n : Int) (nm v : ByteArray) : (attrM11 M n nm v).length = M.length := by
  unfold attrM11
  split
  · rw [len_row]
  · rfl
theorem dropM_len (M : List Nd) (n : Int) (nm : ByteArray) : (dropM11 M n nm).length = M.length := by
  unfold dropM11
  split
  · rw [len_row]
  · rfl
theorem dataM_len (M : List Nd) (n : Int) (d : ByteArray) : (dataM M n d).length = M.length := by
  unfold dataM
  split
  · rfl
  · rw [len_row]
theorem opM_len {M : List Nd} (W : Wf M) (o : Op11) : M.length ≤ (opM M o).length ∧ (opM M o).length ≤ 2 * M.length + 12 := by
  have h0 := makeM_len M o.what o.name o.value
  have h1 := loadM_len M (cut12 (ros o.x))
  have h1' := cut12_len (ros o.x)
  have h4 := cloneM_len W o.node
  unfold opM
  split
  · omega
  split
  · omega
  split
  · rw [insM_len]
    omega
  split
  · rw [remM_len]
    omega
  split
  · omega
  split
  · rw [attrM_len]
    omega
  split
  · rw [dropM_len]
    omega
  split
  · rw [dataM_len]
    omega
  · omega
end Go.Proofs.Ytfnffplnoicjcaa.Ar

namespace Go.Proofs.Ytfnffplnoicjcaa.Ar
set_option linter.unusedSimpArgs false
set_option linter.unusedVariables false
theorem filter_none11 {l : List Nat} {n : Nat} (h : n ∉ l) : l.filter (· != n) = l := by
  rw [List.filter_eq_self]
  intro x hx
  simp only [bne_iff_ne, ne_eq]
  rintro rfl
  exact h hx
/-- All that the law asks of a node that was put in: P is its parent, i its place. -/
structure Moved (M M' : List Nd) (P i n : Nat) : Prop where
  len : M'.length = M.length
  hP : P < M.length
  h0 : n ≠ 0
  hn : n < M.length
  place : i < (nd M' P).kids.length
  there : (nd M' P).kids[i]? = some n
  up : (nd M' n).up = P
  rows : rowsM M' n = rowsM M n
  outRows : rowsM (takeOut M' n) n = rowsM M n
  outUp : (nd (takeOut M' n) n).up = -1
  outLen : (nd (takeOut M' n) P).kids.length + 1 = (nd M' P).kids.length
end Go.Proofs.Ytfnffplnoicjcaa.Ar

namespace Go.Proofs.Ytfnffplnoicjcaa.Ro
set_option linter.unusedVariables false
set_option linter.unusedSimpArgs false
open Go.RowKit Ba
end Go.Proofs.Ytfnffplnoicjcaa.Ro

namespace Go.Proofs.Ytfnffplnoicjcaa.Ro
set_option linter.unusedVariables false
set_option linter.unusedSimpArgs false
open Go.RowKit Ba
end Go.Proofs.Ytfnffplnoicjcaa.Ro

namespace Go.Proofs.Ytfnffplnoicjcaa.Ro
set_option linter.unusedVariables false
set_option linter.unusedSimpArgs false
open Go.RowKit Ba
/-- How deep a row may stand behind these. -/
def after (m : Int) : List Ro → Int
  | [] => m
  | x :: r => after (if x.kind = 0 then x.depth + 1 else x.depth) r
theorem right_append : ∀ (a b : List Ro) (m : Int), rightFrom m (a ++ b) = (rightFrom m a && rightFrom (after m a) b)
  | [], b, m => by rw [List.nil_append, rightFrom, after, Bool.true_and]
  | x :: r, b, m => by rw [List.cons_append, rightFrom, rightFrom, after, right_append r b]; simp only [Bool.and_assoc]
theorem right_head {m k : Int} {b : List Ro} (h : rightFrom m b = true) (hk : ∀ y, b.head? = some y → y.depth ≤ k) : rightFrom k b = true := by
  cases b with
  | nil => rfl
  | cons y t =>
    have := hk y rfl
    rw [rightFrom] at h ⊢
    simp only [Bool.and_eq_true, decide_eq_true_eq] at h ⊢
    exact ⟨⟨⟨h.1.1.1, this⟩, h.1.2⟩, h.2⟩
theorem ok_deeper (x : Ro) (d : Int) : okRow { x with depth := x.depth + d } = okRow x := rfl
theorem right_deeper (D : Int) : ∀ (a : List Ro) (m : Int), rightFrom m a = true → (∀ y ∈ a, 0 ≤ y.depth + D) → rightFrom (m + D) (deeper D a) = true
  | [], _, _, _ => rfl
  | x :: r, m, h, hd => by
    rw [rightFrom] at h
    simp only [Bool.and_eq_true, decide_eq_true_eq] at h
    have h0 := hd x List.mem_cons_self
    have ih := right_deeper D r _ h.2 fun y hy => hd y (List.mem_cons_of_mem _ hy)
    show rightFrom (m + D) ({ x with depth := x.depth + D } :: deeper D r) = true
    rw [rightFrom]
    simp only [Bool.and_eq_true, decide_eq_true_eq]
    refine ⟨⟨⟨h0, by show x.depth + D ≤ m + D; omega⟩, ?_⟩, ?_⟩
    · rw [ok_deeper]; exact h.1.2
    · by_cases hk : x.kind = 0
      · rw [if_pos hk] at ih ⊢
        rw [show x.depth + D + 1 = x.depth + 1 + D by omega]
        exact ih
      · rw [if_neg hk] at ih ⊢
        exact ih
theorem takeWhile_split {α : Type} (p : α → Bool) : ∀ l : List α, l = l.takeWhile p ++ l.drop (l.takeWhile p).length
  | [] => rfl
  | x :: r => by
    by_cases hp : p x = true
    · rw [List.takeWhile_cons_of_pos hp, List.length_cons, List.drop_succ_cons, List.cons_append, ← takeWhile_split p r]
    · rw [List.takeWhile_cons_of_neg hp]; rfl
theorem mem_takeWhile {α : Type} (p : α → Bool) : ∀ (l : List α), ∀ x ∈ l.takeWhile p, p x = true
  | [], x, h => by cases h
  | y :: r, x, h => by
    by_cases hp : p y = true
    · rw [List.takeWhile_cons_of_pos hp] at h
      rcases List.mem_cons.1 h with rfl | h
      · exact hp
      · exact mem_takeWhile p r x h
    · rw [List.takeWhile_cons_of_neg hp] at h; cases h

/-- A row, what is below it, and the rest. -/
theorem tree_split {l : List Ro} {k : Nat} (hk : k < l.length) :
    l.drop k = (l[k] :: below l k) ++ l.drop (endOf l k) ∧ (∀ y ∈ below l k, l[k].depth < y.depth) ∧ (∀ y, (l.drop (endOf l k)).head? = some y → y.depth ≤ l[k].depth) ∧ dep l k = l[k].depth ∧ endOf l k = k + 1 + (below l k).length := by
  have hd : dep l k = l[k].depth := dep_at (List.getElem?_eq_getElem hk)
  have he : endOf l k = k + 1 + (below l k).length := by
    unfold endOf; rw [show ((k : Int) + 1).toNat = k + 1 by omega]
  have hb : below l k = (l.drop (k + 1)).takeWhile fun x => decide (l[k].depth < x.depth) := by
    unfold below; rw [hd, show ((k : Int) + 1).toNat = k + 1 by omega]
  have hsp := takeWhile_split (fun x : Ro => decide (l[k].depth < x.depth)) (l.drop (k + 1))
  rw [← hb] at hsp
  have hdd : (l.drop (k + 1)).drop (below l k).length = l.drop (endOf l k) := by rw [List.drop_drop, he]
  rw [hdd] at hsp
  refine ⟨?_, fun y hy => ?_, fun y hy => ?_, hd, he⟩
  · rw [List.drop_eq_getElem_cons hk, List.cons_append]
    rw [← hsp]
  · rw [hb] at hy
    have := mem_takeWhile _ _ y hy
    simpa using this
  · have := stops (fun x : Ro => decide (l[k].depth < x.depth)) (l.drop (k + 1)) y (by rw [← hb, hdd]; exact hy)
    simp at this
    exact this
theorem part_tree {l : List Ro} {k : Nat} (hk : k < l.length) : (l.take (endOf l k)).drop k = l[k] :: below l k := by
  obtain ⟨h1, _, _, _, h5⟩ := tree_split hk
  rw [List.drop_take, h1, h5, List.take_append_of_le_length (by rw [List.length_cons]; omega), List.take_of_length_le (by rw [List.length_cons]; omega)]
theorem take_form {l : List Ro} {k : Nat} (hk : k < l.length) : takeAt l k = deeper (-(l[k].depth)) (l[k] :: below l k) := by
  obtain ⟨_, _, _, h4, _⟩ := tree_split hk
  unfold takeAt
  rw [h4, Int.toNat_natCast, part_tree hk]
theorem right_tree {l : List Ro} (h : right l = true) {k : Nat} (hk : k < l.length) :
    0 ≤ l[k].depth ∧ rightFrom l[k].depth (l[k] :: below l k) = true ∧ right (takeAt l k) = true ∧ right (dropAt l k) = true := by
  obtain ⟨h1, h2, h3, h4, h5⟩ := tree_split hk
  have hs := right_append (l.take k) (l.drop k) 0
  rw [List.take_append_drop] at hs
  have hr : right l = rightFrom 0 l := rfl
  rw [hr, hs, Bool.and_eq_true, h1, right_append, Bool.and_eq_true] at h
  obtain ⟨ha, hb, hc⟩ := h
  have hb' := hb
  rw [rightFrom] at hb'
  simp only [Bool.and_eq_true, decide_eq_true_eq] at hb'
  have hb2 : rightFrom l[k].depth (l[k] :: below l k) = true := right_head hb fun y hy => by
    obtain rfl := Option.some.inj hy
    exact Int.le_refl _
  refine ⟨hb'.1.1.1, hb2, ?_, ?_⟩
  · rw [take_form hk]
    have := right_deeper (-(l[k].depth)) (l[k] :: below l k) l[k].depth hb2 fun y hy => by
      rcases List.mem_cons.1 hy with rfl | hy
      · omega
      · have := h2 y hy; omega
    rw [show l[k].depth + -(l[k].depth) = 0 by omega] at this
    exact this
  · show rightFrom 0 (l.take ((k : Nat) : Int).toNat ++ l.drop (endOf l k)) = true
    rw [Int.toNat_natCast, right_append, ha, Bool.true_and]
    exact right_head hc fun y hy => Int.le_trans (h3 y hy) hb'.1.1.2
theorem len_take {l : List Ro} {k : Nat} (hk : k < l.length) : (takeAt l k).length = endOf l k - k := by
  obtain ⟨_, _, _, _, h5⟩ := tree_split hk
  rw [take_form hk, len_deeper, List.length_cons, h5]
  omega
end Go.Proofs.Ytfnffplnoicjcaa.Ro

namespace Go.Proofs.Ytfnffplnoicjcaa.Ro
set_option linter.unusedVariables false
set_option linter.unusedSimpArgs false
open Go.RowKit Ba
/-- All depths are at least d, and where something stands, the first is just d. -/
def Forest (d : Int) (r : List Ro) : Prop := (∀ y ∈ r, d ≤ y.depth) ∧ ∀ y, r.head? = some y → y.depth = d
/-- How many rows the first tree has besides its root. -/
def more (d : Int) (r : List Ro) : Nat := (r.takeWhile fun y => decide (d < y.depth)).length
theorem forest_next {d : Int} {x : Ro} {r : List Ro} (h : Forest d (x :: r)) : x.depth = d ∧ Forest d (r.drop (more d r)) ∧ more d r ≤ r.length := by
  refine ⟨h.2 x rfl, ⟨fun y hy => h.1 y (List.mem_cons_of_mem _ (List.mem_of_mem_drop hy)), fun y hy => ?_⟩, (List.takeWhile_sublist _).length_le⟩
  have h1 := stops (fun y : Ro => decide (d < y.depth)) r y hy
  have h2 := h.1 y (List.mem_cons_of_mem _ (List.mem_of_mem_drop (i := more d r) (List.mem_of_mem_head? hy)))
  simp at h1
  omega
theorem kids_skip (d : Int) : ∀ (n : Nat) (r : List Ro) (k : Nat), (∀ y ∈ r.take n, d < y.depth) → n ≤ r.length → kidsFrom d k r = kidsFrom d (k + n) (r.drop n)
  | 0, r, k, _, _ => rfl
  | n + 1, [], k, _, h => absurd h (by simp)
  | n + 1, x :: r, k, h, hn => by
    have h0 := h x (by simp)
    rw [kids_miss (by omega), kids_skip d n r (k + 1) (fun y hy => h y (by rw [List.take_succ_cons]; exact List.mem_cons_of_mem _ hy)) (by simpa using hn)]
    rw [show k + 1 + n = k + (n + 1) by omega, List.drop_succ_cons]
theorem kids_forest {d : Int} {x : Ro} {r : List Ro} (h : Forest d (x :: r)) (k : Nat) : kidsFrom d k (x :: r) = k :: kidsFrom d (k + 1 + more d r) (r.drop (more d r)) := by
  obtain ⟨h1, _, h3⟩ := forest_next h
  rw [kids_hit h1, kids_skip d (more d r) r (k + 1) (fun y hy => by
    have := takes (fun y : Ro => decide (d < y.depth)) r y hy
    simpa using this) h3]

/-- What stands below a node is a forest one deeper. -/
theorem below_forest {l : List Ro} (h : right l = true) (hl : l.length ≤ 1000) (i : Int) (h1 : -1 ≤ i) (h2 : i < l.length) : Forest (dep l i + 1) (below l i) := by
  refine ⟨fun y hy => ?_, fun y hy => ?_⟩
  · have := mem_takeWhile _ _ y hy
    simp at this
    omega
  · have hb := mem_takeWhile _ _ y (List.mem_of_mem_head? hy)
    simp at hb
    have hfirst : l[(i + 1).toNat]? = some y := by
      unfold below at hy
      cases hd : l.drop (i + 1).toNat with
      | nil => rw [hd] at hy; simp at hy
      | cons z t =>
        rw [hd, List.takeWhile_cons] at hy
        split at hy
        · obtain rfl := Option.some.inj hy
          exact getElem_of_drop hd
        · simp at hy
    by_cases hi : i = -1
    · subst hi
      rw [dep_top]
      have hlt : 0 < l.length := (List.getElem?_eq_some_iff.1 hfirst).1
      cases l with
      | nil => simp at hlt
      | cons x r =>
        have e : x = y := by simpa using hfirst
        subst e
        have hr : rightFrom 0 (x :: r) = true := h
        rw [rightFrom] at hr
        simp only [Bool.and_eq_true, decide_eq_true_eq] at hr
        omega
    · obtain ⟨k, rfl⟩ : ∃ k : Nat, i = k := ⟨i.toNat, by omega⟩
      rw [show ((k : Int) + 1).toNat = k + 1 by omega] at hfirst
      have hk1 : k + 1 < l.length := (List.getElem?_eq_some_iff.1 hfirst).1
      have hs := right_step l 0 h k l[k] y (List.getElem?_eq_getElem (by omega)) hfirst
      have hd : dep l k = l[k].depth := dep_at (List.getElem?_eq_getElem (by omega))
      omega
/-- Where a node's tree ends, as rows. -/
theorem below_split {l : List Ro} (i : Int) (h1 : -1 ≤ i) : l.drop (i + 1).toNat = below l i ++ l.drop (endOf l i) ∧ ∀ y, (l.drop (endOf l i)).head? = some y → y.depth ≤ dep l i := by
  have hsp := takeWhile_split (fun x : Ro => decide (dep l i < x.depth)) (l.drop (i + 1).toNat)
  have hdd : (l.drop (i + 1).toNat).drop (below l i).length = l.drop (endOf l i) := by rw [List.drop_drop]; rfl
  refine ⟨?_, fun y hy => ?_⟩
  · rw [← hdd]; exact hsp
  · have := stops (fun x : Ro => decide (dep l i < x.depth)) (l.drop (i + 1).toNat) y (by
      have : (l.drop (i + 1).toNat).drop (below l i).length = l.drop (endOf l i) := hdd
      rw [← this] at hy
      exact hy)
    simp at this
    exact this
theorem takeWhile_append_stop {p : Ro → Bool} : ∀ (a b : List Ro), (∀ y, b.head? = some y → p y = false) → (a ++ b).takeWhile p = a.takeWhile p
  | [], b, h => by
    cases b with
    | nil => rfl
    | cons y t => rw [List.nil_append, List.takeWhile_cons_of_neg (by rw [h y rfl]; decide)]; rfl
  | x :: r, b, h => by
    rw [List.cons_append, List.takeWhile_cons, List.takeWhile_cons, takeWhile_append_stop r b h]

/-- A kid: where it stands, its tree's end, its parent. The rows below i from the m-th on are a forest that begins with it. -/
theorem kid_facts {l : List Ro} (hr : right l = true) (hl : l.length ≤ 1000) {i : Int} (h1 : -1 ≤ i) (h2 : i < l.length) {m : Nat} {x : Ro} {r : List Ro}
    (hm : (below l i).drop m = x :: r) (hx : x.depth = dep l i + 1) :
    (i + 1).toNat + m < l.length ∧ endOf l ((i + 1).toNat + m : Nat) = (i + 1).toNat + m + 1 + more (dep l i + 1) r ∧ parent l ((i + 1).toNat + m : Nat) = i := by
  obtain ⟨hs1, hs2⟩ := below_split (l := l) i h1
  obtain ⟨k, hk⟩ : ∃ k, (i + 1).toNat + m = k := ⟨_, rfl⟩
  rw [hk]
  have hdk : l.drop k = x :: r ++ l.drop (endOf l i) := by
    rw [← hk, ← List.drop_drop, hs1, List.drop_append_of_le_length, hm]
    have := congrArg List.length hm
    rw [List.length_drop, List.length_cons] at this
    omega
  have hkl : k < l.length := by
    have := congrArg List.length hdk
    rw [List.length_drop, List.length_append, List.length_cons] at this
    omega
  have hgk : l[k]? = some x := getElem_of_drop (r := r ++ l.drop (endOf l i)) (by rw [hdk]; rfl)
  have hdepk : dep l k = dep l i + 1 := by rw [dep_at hgk, hx]
  refine ⟨hkl, ?_, ?_⟩
  · unfold endOf below
    rw [show ((k : Int) + 1).toNat = k + 1 by omega, hdepk]
    have hd1 : l.drop (k + 1) = r ++ l.drop (endOf l i) := by
      have := congrArg (List.drop 1) hdk
      rw [List.drop_drop] at this
      exact this
    rw [hd1, takeWhile_append_stop]
    · rfl
    · intro y hy
      have := hs2 y hy
      simp
      omega
  · unfold parent
    have hh : hasRow l k = true := by unfold hasRow; exact decide_eq_true ⟨by omega, by omega⟩
    rw [hh, if_pos rfl, hdepk, Int.toNat_natCast]
    have hall : ∀ j : Nat, (i + 1).toNat ≤ j → j < k → ¬ dep l j < dep l i + 1 := by
      intro j hj1 hj2
      have hjl : j < l.length := by omega
      have hjb : l[j] ∈ below l i := by
        have e : (l.drop (i + 1).toNat)[j - (i + 1).toNat]? = some l[j] := by
          rw [List.getElem?_drop, show (i + 1).toNat + (j - (i + 1).toNat) = j by omega, List.getElem?_eq_getElem hjl]
        have hmlen : m ≤ (below l i).length := by
          have := congrArg List.length hm
          rw [List.length_drop, List.length_cons] at this
          omega
        rw [hs1, List.getElem?_append_left (by omega)] at e
        exact List.mem_of_getElem? e
      have := mem_takeWhile _ _ _ hjb
      simp at this
      rw [dep_at (List.getElem?_eq_getElem hjl)]
      omega
    have hup : ∀ n : Nat, (i + 1).toNat ≤ n → n ≤ k → up l (dep l i + 1) n = i := by
      intro n
      induction n with
      | zero =>
        intro hn _
        show (-1 : Int) = i
        omega
      | succ n ih =>
        intro hn1 hn2
        by_cases hlt : (i + 1).toNat ≤ n
        · rw [up_on (hall n hlt (by omega))]
          exact ih hlt (by omega)
        · have e : (n : Int) = i := by omega
          show (if dep l n < dep l i + 1 then (n : Int) else up l (dep l i + 1) n) = i
          rw [e, if_pos (by omega)]
    exact hup k (by omega) (Nat.le_refl _)

theorem up_spec (l : List Ro) (d : Int) : ∀ n : Nat, -1 ≤ up l d n ∧ up l d n < n ∧ (0 ≤ up l d n → dep l (up l d n) < d) ∧ ∀ j : Nat, up l d n < j → j < n → d ≤ dep l j
  | 0 => ⟨Int.le_refl _, by show (-1 : Int) < 0; omega, fun h => by have h : (0 : Int) ≤ -1 := h; omega, fun j _ h => absurd h (by omega)⟩
  | n + 1 => by
    obtain ⟨h1, h2, h3, h4⟩ := up_spec l d n
    by_cases hlt : dep l n < d
    · have e : up l d (n + 1) = n := if_pos hlt
      rw [e]
      exact ⟨by omega, by omega, fun _ => hlt, fun j ha hb => by omega⟩
    · rw [up_on hlt]
      refine ⟨h1, by omega, h3, fun j ha hb => ?_⟩
      by_cases hj : j = n
      · subst hj; omega
      · exact h4 j ha (by omega)
theorem parent_row {l : List Ro} {k : Nat} (hk : k < l.length) : parent l k = up l (dep l k) k := by
  have hh : hasRow l k = true := by unfold hasRow; exact decide_eq_true ⟨by omega, by omega⟩
  unfold parent
  rw [hh, if_pos rfl, Int.toNat_natCast]

end Go.Proofs.Ytfnffplnoicjcaa.Ro

namespace Go.Proofs.Ytfnffplnoicjcaa.Ar
set_option linter.unusedSimpArgs false
set_option linter.unusedVariables false
open Ro (At Ro deeper okRow right rightFrom parent dep hasRow kids kidsFrom kids_hit kids_miss below endOf Forest more forest_next kids_forest below_forest below_split kid_facts up parent_row dep_at dep_top right_deep part_tree getElem_of_drop)
theorem filt_none {p : Nat → Bool} {l : List Nat} (h : ∀ k ∈ l, p k = false) : l.filter p = [] := by
  rw [List.filter_eq_nil_iff]
  intro k hk
  rw [h k hk]
  decide
theorem kids_filt (d : Int) (p : Nat → Bool) : ∀ (r : List Ro) (k : Nat), (∀ j (h : j < r.length), p (k + j) = decide (r[j].depth = d)) → kidsFrom d k r = (List.range' k r.length).filter p
  | [], k, _ => rfl
  | x :: r, k, h => by
    have h0 : p k = decide (x.depth = d) := h 0 (by simp)
    have ih := kids_filt d p r (k + 1) fun j hj => by
      have := h (j + 1) (by simp; omega)
      rw [show k + 1 + j = k + (j + 1) by omega]
      exact this
    rw [List.length_cons, List.range'_succ, List.filter_cons, ← ih, h0]
    by_cases hx : x.depth = d
    · rw [kids_hit hx, decide_eq_true hx, if_pos rfl]
    · rw [kids_miss hx, decide_eq_false hx, if_neg (by decide)]
theorem mem_kidsFrom (d : Int) : ∀ (r : List Ro) (k j : Nat), j ∈ kidsFrom d k r → ∃ t, ∃ h : t < r.length, j = k + t ∧ r[t].depth = d
  | [], k, j, h => by cases h
  | x :: r, k, j, h => by
    by_cases hx : x.depth = d
    · rw [kids_hit hx, List.mem_cons] at h
      rcases h with rfl | h
      · exact ⟨0, by simp, rfl, hx⟩
      · obtain ⟨t, ht, rfl, hd⟩ := mem_kidsFrom d r (k + 1) j h
        exact ⟨t + 1, by simpa using ht, by omega, by simpa using hd⟩
    · rw [kids_miss hx] at h
      obtain ⟨t, ht, rfl, hd⟩ := mem_kidsFrom d r (k + 1) j h
      exact ⟨t + 1, by simpa using ht, by omega, by simpa using hd⟩
/-- A node's kids are those whose parent it is. -/
theorem kids_are {l : List Ro} (hr : right l = true) (hl : l.length ≤ 1000) {i : Int} (h1 : -1 ≤ i) (h2 : i < l.length) :
    kids l i = (List.range l.length).filter fun k : Nat => decide (parent l k = i) := by
  have hfo := below_forest hr hl i h1 h2
  obtain ⟨hs1, hs2⟩ := below_split (l := l) i h1
  have hlen : (i + 1).toNat + (below l i).length + (l.drop (endOf l i)).length = l.length := by
    have := congrArg List.length hs1
    rw [List.length_drop, List.length_append] at this
    omega
  have he : endOf l i = (i + 1).toNat + (below l i).length := rfl
  have hrange : List.range l.length = List.range' 0 (i + 1).toNat ++ List.range' (i + 1).toNat (below l i).length ++ List.range' (endOf l i) (l.drop (endOf l i)).length := by
    rw [List.range_eq_range', he]
    have e1 := List.range'_append (s := 0) (m := (i + 1).toNat) (n := (below l i).length) (step := 1)
    have e2 := List.range'_append (s := 0) (m := (i + 1).toNat + (below l i).length) (n := (l.drop (endOf l i)).length) (step := 1)
    simp only [Nat.one_mul, Nat.zero_add] at e1 e2
    rw [e1, ← he]
    rw [he] at e2 hlen ⊢
    rw [e2, hlen]
  rw [hrange, List.filter_append, List.filter_append]
  have c1 : (List.range' 0 (i + 1).toNat).filter (fun k : Nat => decide (parent l k = i)) = [] := filt_none fun k hk => by
    have hk2 := List.mem_range'_1.1 hk
    refine decide_eq_false fun e => ?_
    have hkl : k < l.length := by omega
    rw [parent_row hkl] at e
    have := (Ro.up_spec l (dep l k) k).2.1
    omega
  have c3 : (List.range' (endOf l i) (l.drop (endOf l i)).length).filter (fun k : Nat => decide (parent l k = i)) = [] := filt_none fun k hk => by
    have hk2 := List.mem_range'_1.1 hk
    refine decide_eq_false fun e => ?_
    have hkl : k < l.length := by omega
    rw [parent_row hkl] at e
    obtain ⟨u1, u2, u3, u4⟩ := Ro.up_spec l (dep l k) k
    rw [e] at u1 u2 u3 u4
    have hne : 0 < (l.drop (endOf l i)).length := by omega
    have hel : endOf l i < l.length := by rw [List.length_drop] at hne; omega
    have hy := hs2 l[endOf l i] (by rw [List.head?_eq_getElem?, List.getElem?_drop, Nat.add_zero, List.getElem?_eq_getElem hel])
    have hde : dep l (endOf l i) = l[endOf l i].depth := dep_at (List.getElem?_eq_getElem hel)
    by_cases hke : k = endOf l i
    · subst hke
      by_cases hi : 0 ≤ i
      · have := u3 hi; omega
      · have : i = -1 := by omega
        subst this
        rw [dep_top] at hy
        have := right_deep hr hl l[endOf l (-1)] (List.getElem_mem _)
        omega
    · have h4 := u4 (endOf l i) (by omega) (by omega)
      by_cases hi : 0 ≤ i
      · have := u3 hi; omega
      · have : i = -1 := by omega
        subst this
        rw [dep_top] at hy
        have := right_deep hr hl l[endOf l (-1)] (List.getElem_mem _)
        omega
  rw [c1, c3, List.nil_append, List.append_nil]
  refine kids_filt _ _ (below l i) _ fun j hj => decide_eq_decide.2 ⟨fun e => ?_, fun e => ?_⟩
  · have hkl : (i + 1).toNat + j < l.length := by omega
    have hgj : l[(i + 1).toNat + j]? = some (below l i)[j] := by
      have e2 : (l.drop (i + 1).toNat)[j]? = some (below l i)[j] := by rw [hs1, List.getElem?_append_left hj, List.getElem?_eq_getElem hj]
      rwa [List.getElem?_drop] at e2
    have hdj : dep l ((i + 1).toNat + j : Nat) = (below l i)[j].depth := dep_at hgj
    have hge := hfo.1 (below l i)[j] (List.getElem_mem _)
    have h0l : 0 < (below l i).length := by omega
    have hhead := hfo.2 (below l i)[0] (by rw [List.head?_eq_getElem?, List.getElem?_eq_getElem h0l])
    by_cases hj0 : j = 0
    · subst hj0; exact hhead
    · rw [parent_row hkl] at e
      obtain ⟨_, _, _, u4⟩ := Ro.up_spec l (dep l ((i + 1).toNat + j : Nat)) ((i + 1).toNat + j)
      rw [e] at u4
      have h4 := u4 ((i + 1).toNat) (by omega) (by omega)
      have hg0 : l[(i + 1).toNat]? = some (below l i)[0] := by
        have e2 : (l.drop (i + 1).toNat)[0]? = some (below l i)[0] := by rw [hs1, List.getElem?_append_left h0l, List.getElem?_eq_getElem h0l]
        rwa [List.getElem?_drop, Nat.add_zero] at e2
      rw [dep_at hg0] at h4
      omega
  · exact (kid_facts hr hl h1 h2 (m := j) (x := (below l i)[j]) (r := (below l i).drop (j + 1)) (List.drop_eq_getElem_cons hj) e).2.2

/-- A node's rows in the list. -/
def seg (l : List Ro) (j : Nat) : List Ro := (l.take (endOf l j)).drop j
theorem seg_forest {l : List Ro} (hr : right l = true) (hl : l.length ≤ 1000) {i : Int} (h1 : -1 ≤ i) (h2 : i < l.length) : ∀ (n : Nat) (r : List Ro) (m : Nat), r.length ≤ n → (below l i).drop m = r → Forest (dep l i + 1) r → (kidsFrom (dep l i + 1) ((i + 1).toNat + m) r).flatMap (seg l) = r
  | _, [], _, _, _, _ => rfl
  | 0, x :: r, _, hn, _, _ => absurd hn (by simp)
  | n + 1, x :: r, m, hn, hm, hf => by
    obtain ⟨hx, hf2, hmr⟩ := forest_next hf
    rw [kids_forest hf, List.flatMap_cons]
    obtain ⟨k1, k2, k3⟩ := kid_facts hr hl h1 h2 hm hx
    have hm2 : (below l i).drop (m + 1 + more (dep l i + 1) r) = r.drop (more (dep l i + 1) r) := by
      rw [show m + 1 + more (dep l i + 1) r = m + (1 + more (dep l i + 1) r) from by omega, ← List.drop_drop, hm, show 1 + more (dep l i + 1) r = more (dep l i + 1) r + 1 from by omega, List.drop_succ_cons]
    have ih := seg_forest hr hl h1 h2 n (r.drop (more (dep l i + 1) r)) (m + 1 + more (dep l i + 1) r) (by rw [List.length_drop]; simp at hn; omega) hm2 hf2
    rw [show (i + 1).toNat + m + 1 + more (dep l i + 1) r = (i + 1).toNat + (m + 1 + more (dep l i + 1) r) from by omega, ih]
    obtain ⟨hs1, _⟩ := below_split (l := l) i h1
    have hdk : l.drop ((i + 1).toNat + m) = x :: r ++ l.drop (endOf l i) := by
      rw [← List.drop_drop, hs1, List.drop_append_of_le_length, hm]
      have := congrArg List.length hm
      rw [List.length_drop, List.length_cons] at this
      omega
    have hseg : seg l ((i + 1).toNat + m) = x :: r.take (more (dep l i + 1) r) := by
      unfold seg
      rw [k2, List.drop_take, hdk, show (i + 1).toNat + m + 1 + more (dep l i + 1) r - ((i + 1).toNat + m) = more (dep l i + 1) r + 1 from by omega, List.cons_append, List.take_succ_cons, List.take_append_of_le_length hmr]
    rw [hseg, List.cons_append, List.take_append_drop]
theorem seg_kids {l : List Ro} (hr : right l = true) (hl : l.length ≤ 1000) {i : Int} (h1 : -1 ≤ i) (h2 : i < l.length) : (kids l i).flatMap (seg l) = below l i :=
  seg_forest hr hl h1 h2 _ (below l i) 0 (Nat.le_refl _) rfl (below_forest hr hl i h1 h2)
theorem kid_dep {l : List Ro} {i : Int} (h1 : -1 ≤ i) {j : Nat} (hj : j ∈ kids l i) : i < j ∧ j < l.length ∧ dep l j = dep l i + 1 := by
  obtain ⟨t, ht, rfl, hd⟩ := mem_kidsFrom _ _ _ _ hj
  obtain ⟨hs1, _⟩ := below_split (l := l) i h1
  have hg : l[(i + 1).toNat + t]? = some (below l i)[t] := by
    have e2 : (l.drop (i + 1).toNat)[t]? = some (below l i)[t] := by rw [hs1, List.getElem?_append_left ht, List.getElem?_eq_getElem ht]
    rwa [List.getElem?_drop] at e2
  refine ⟨by omega, (List.getElem?_eq_some_iff.1 hg).1, ?_⟩
  rw [dep_at hg, hd]
theorem while_all {p : Ro → Bool} : ∀ {l : List Ro}, (∀ x ∈ l, p x = true) → l.takeWhile p = l
  | [], _ => rfl
  | x :: r, h => by rw [List.takeWhile_cons, if_pos (h x List.mem_cons_self), while_all fun y hy => h y (List.mem_cons_of_mem _ hy)]
theorem below_top {l : List Ro} (hd : ∀ x ∈ l, (0 : Int) ≤ x.depth) : below l (-1) = l := by
  unfold below
  rw [dep_top]
  show l.takeWhile _ = l
  refine while_all fun x hx => ?_
  have := hd x hx
  exact decide_eq_true (by omega)
/-! ### The kids of what was loaded. -/
def kidsTo (l : List Ro) (i q : Nat) : List Nat := (List.range i).filter fun j => decide (parI l j = (q : Int))
theorem kidsTo_next (l : List Ro) (i q : Nat) : kidsTo l (i + 1) q = kidsTo l i q ++ if parI l i = (q : Int) then [i] else [] := by
  unfold kidsTo
  rw [List.range_succ, List.filter_append]
  congr 1
  by_cases h : parI l i = (q : Int)
  · simp [h]
  · simp [h]
theorem kidsTo_none {l : List Ro} {i q : Nat} (hp : ∀ j < i, parI l j < j) (hq : i ≤ q) : kidsTo l i q = [] := by
  unfold kidsTo
  refine filt_none fun k hk => decide_eq_false fun e => ?_
  have hk := List.mem_range.1 hk
  have := hp k hk
  omega
theorem load_nd {l : List Ro} {M : List Nd} (W : Wf M) (hp : ∀ j < l.length, parI l j < j) : ∀ i, i ≤ l.length → (∀ q, (nd (loadTo M.length l (parI l) M i) (M.length + q)).kids = (kidsTo l i q).map (M.length + ·)) ∧ (∀ m < M.length, nd (loadTo M.length l (parI l) M i) m = nd M m) ∧ ∀ q < i, (nd (loadTo M.length l (parI l) M i) (M.length + q)).up = if parI l q < 0 then -1 else (M.length : Int) + parI l q
  | 0, _ => by
    refine ⟨fun q => ?_, fun m _ => rfl, fun q hq => absurd hq (Nat.not_lt_zero _)⟩
    rw [loadTo, nd_out (by omega)]
    rfl
  | i + 1, hi => by
    obtain ⟨ih1, ih2, ih3⟩ := load_nd W hp i (by omega)
    have hpj : ∀ j < i + 1, parI l j < j := fun j hj => hp j (by omega)
    have W1 := load_wf (l := l) W i fun j hj => hp j (by omega)
    have hll := load_len M.length l (parI l) M i
    have hpi := hp i (by omega)
    obtain ⟨L, hL⟩ : ∃ L, loadTo M.length l (parI l) M i = L := ⟨_, rfl⟩
    obtain ⟨x, hx⟩ : ∃ x, (l[i]?).getD ⟨0, 0, ⟨#[]⟩, ⟨#[]⟩, []⟩ = x := ⟨_, rfl⟩
    rw [loadTo, hL, hx]
    rw [hL] at ih1 ih2 ih3 W1 hll
    have hpos := W.pos
    by_cases hneg : parI l i < 0
    · rw [if_pos hneg]
      refine ⟨fun q => ?_, fun m hm => ?_, fun q hq => ?_⟩
      · rw [nd_add, kidsTo_next, if_neg (show ¬ parI l i = (q : Int) by omega), List.append_nil]
        by_cases e : M.length + q = L.length
        · rw [if_pos e, kidsTo_none (fun j hj => hpj j (by omega)) (by omega)]
          rfl
        · rw [if_neg e]
          exact ih1 q
      · rw [nd_add, if_neg (by omega)]
        exact ih2 m hm
      · rw [nd_add]
        by_cases e : M.length + q = L.length
        · have : q = i := by omega
          subst this
          rw [if_pos e, if_pos hneg]
        · rw [if_neg e]
          exact ih3 q (by omega)
    · rw [if_neg hneg]
      obtain ⟨q0, hq0⟩ : ∃ q0 : Nat, parI l i = q0 := ⟨(parI l i).toNat, by omega⟩
      rw [hq0, Int.toNat_natCast]
      have hla := len_add L x
      have hP : M.length + q0 < (addM L x).length := by omega
      have hN : M.length + i < (addM L x).length := by omega
      have hni : M.length + i = L.length := by omega
      have hfil : ∀ m, (nd (addM L x) m).kids.filter (· != M.length + i) = (nd (addM L x) m).kids := fun m => by rw [hni]; exact filter_new W1 x m
      refine ⟨fun q => ?_, fun m hm => ?_, fun q hq => ?_⟩
      · rw [nd_set hP hN, kidsTo_next, hq0]
        show (if M.length + q = M.length + q0 then _ else _) = _
        rw [hfil]
        by_cases e : q = q0
        · subst e
          rw [if_pos rfl, if_pos rfl, nd_add, if_neg (by omega), ih1 q, List.map_append]
          unfold putAt10
          rw [List.take_length, List.drop_length]
          rfl
        · rw [if_neg (by omega), if_neg (by omega), List.append_nil, nd_add]
          by_cases e2 : M.length + q = L.length
          · rw [if_pos e2, kidsTo_none (fun j hj => hpj j (by omega)) (by omega)]
            rfl
          · rw [if_neg e2]
            exact ih1 q
      · rw [nd_set hP hN, hfil, if_neg (show ¬ m = M.length + i by omega), if_neg (show ¬ m = M.length + q0 by omega), nd_add, if_neg (by omega)]
        have := ih2 m hm
        rw [← this]
      · rw [nd_set hP hN]
        show (if M.length + q = M.length + i then _ else _) = _
        by_cases e : q = i
        · subst e
          rw [if_pos rfl, hq0, if_neg (by omega)]
          omega
        · rw [if_neg (by omega), nd_add, if_neg (by omega)]
          exact ih3 q (by omega)
theorem par_less {l : List Ro} : ∀ j < l.length, parI l j < j := fun j hj => by
  unfold parI
  rw [parent_row hj]
  exact (Ro.up_spec l _ j).2.1
theorem kidsTo_all {l : List Ro} (hr : right l = true) (hl : l.length ≤ 1000) {i : Nat} (hi : i < l.length) : kidsTo l l.length i = kids l i := (kids_are hr hl (by omega) (by omega)).symm
theorem load_row {l : List Ro} {M : List Nd} {i : Nat} (hi : i < l.length) : (nd (loadTo M.length l (parI l) M l.length) (M.length + i)).ro = { l[i] with depth := 0 } := by
  refine nd_ro (load_ro l (parI l) M M.length l.length (Nat.le_refl _)) ?_
  rw [List.getElem?_append_right (by simp), List.length_map, show M.length + i - M.length = i from by omega, List.getElem?_map, List.take_length, List.getElem?_eq_getElem hi]
  rfl
/-- The tree of a loaded node is what stands in the list. -/
theorem load_tree {l : List Ro} {M : List Nd} (hr : right l = true) (hl : l.length ≤ 1000) (W : Wf M) : ∀ (n i : Nat), l.length - i ≤ n → i < l.length → tr (loadTo M.length l (parI l) M l.length) (M.length + i) (dep l i) = seg l i
  | 0, i, hn, hi => absurd hi (by omega)
  | n + 1, i, hn, hi => by
    have W' := load_wf (l := l) W l.length par_less
    have hll := load_len M.length l (parI l) M l.length
    have hlt : M.length + i < (loadTo M.length l (parI l) M l.length).length := by omega
    have hk := (load_nd W par_less l.length (Nat.le_refl _)).1 i
    rw [kidsTo_all hr hl hi] at hk
    rw [tr_eq W' hlt, hk, load_row hi, List.flatMap_map]
    have hseg : seg l i = l[i] :: below l i := part_tree hi
    rw [hseg, ← seg_kids hr hl (by omega) (by omega : (i : Int) < l.length)]
    have hd : dep l i = l[i].depth := dep_at (List.getElem?_eq_getElem hi)
    congr 1
    · rw [hd]
    · refine flatMap_congr fun j hj => ?_
      obtain ⟨h1, h2, h3⟩ := kid_dep (by omega) hj
      rw [← h3]
      exact load_tree hr hl W n j (by omega) h2
/-- The roots' trees are the list. -/
theorem load_roots {l : List Ro} {M : List Nd} (hr : right l = true) (hl : l.length ≤ 1000) (W : Wf M) : (kids l (-1)).flatMap (fun j => tr (loadTo M.length l (parI l) M l.length) (M.length + j) 0) = l := by
  have h0 : (kids l (-1)).flatMap (seg l) = below l (-1) := by
    by_cases he : l = []
    · subst he
      rfl
    · have : 0 < l.length := by
        cases l with
        | nil => exact absurd rfl he
        | cons a r => simp
      exact seg_kids hr hl (by omega) (by omega)
  rw [below_top (fun x hx => by
    obtain ⟨j, hj, rfl⟩ := List.getElem_of_mem hx
    exact (rf_steps l 0 hr j _ (List.getElem?_eq_getElem hj)).1)] at h0
  refine Eq.trans (flatMap_congr fun j hj => ?_) h0
  obtain ⟨_, h2, h3⟩ := kid_dep (by omega) hj
  have h3 : dep l j = 0 := h3
  rw [← h3]
  exact load_tree hr hl W _ j (Nat.le_refl _) h2
theorem rootsTo_eq (l : List Ro) (N : Nat) : ∀ i, rootsTo N (parI l) i = ((List.range i).filter fun j => decide (parI l j < 0)).map (N + ·)
  | 0 => rfl
  | i + 1 => by
    rw [rootsTo, List.range_succ, List.filter_append, List.map_append, ← rootsTo_eq l N i]
    by_cases h : parI l i < 0
    · rw [if_pos h]
      simp [h]
    · rw [if_neg h]
      simp [h]
theorem roots_are {l : List Ro} (hr : right l = true) (hl : l.length ≤ 1000) (N : Nat) : rootsTo N (parI l) l.length = (kids l (-1)).map (N + ·) := by
  rw [rootsTo_eq]
  congr 1
  by_cases he : l = []
  · subst he
    rfl
  · have : 0 < l.length := by
      cases l with
      | nil => exact absurd rfl he
      | cons a r => simp
    rw [kids_are hr hl (by omega) (by omega)]
    refine List.filter_congr fun k hk => decide_eq_decide.2 ?_
    have hk := List.mem_range.1 hk
    have h1 := (Ro.up_spec l (dep l k) k).1
    rw [← parent_row hk] at h1
    show parent l k < 0 ↔ parent l k = -1
    omega
end Go.Proofs.Ytfnffplnoicjcaa.Ar

namespace Go.Proofs.Ytfnffplnoicjcaa.Ar
set_option maxRecDepth 100000
set_option linter.unusedSimpArgs false
set_option linter.unusedVariables false
open Go.RowKit Ba
open Ro (At Ro Cw ros Rr Ow Nw Rn Fr Att Ap Sh Ra Rv Held cells acells app_num app_row below_new getElem_of_drop infoI info_row size_row len_cells rowV rowO Few ros_append dec_cons)
theorem len_cut12 (l : List Ro) : (cut12 l).length = min 12 l.length := by
  unfold cut12
  rw [List.length_map, List.length_take]
theorem cut12_at {l : List Ro} {k : Nat} {x : Ro} (h : l[k]? = some x) (hk : k < 12) : (cut12 l).take (k + 1) = (cut12 l).take k ++ [{ x with attrs := x.attrs.take 4 }] := by
  rw [List.take_add_one]
  congr 1
  unfold cut12
  rw [List.getElem?_map, List.getElem?_take, if_pos hk, h]
  rfl
theorem cut4 {w : World} {N : Nat} {x : Cw} (h : Att w N x) : Att w N (Ro.cut x (x.ro.attrs.take 4)) :=
  ⟨Nat.le_trans (List.length_take_le' _ _) h.1, h.2.1, h.2.2.1, h.2.2.2.1.take 4, fun a ha => h.2.2.2.2 a (List.mem_of_mem_take ha)⟩
theorem cut12_at' {l : List Cw} {k : Nat} {x : Cw} (h : l[k]? = some x) (hk : k < 12) : (cut12 (ros l)).take (k + 1) = (cut12 (ros l)).take k ++ [{ x.ro with attrs := x.ro.attrs.take 4 }] :=
  cut12_at (by rw [ros, List.getElem?_map, h]; rfl) hk
theorem len_cut12' (l : List Cw) : (cut12 (ros l)).length = min 12 l.length := by rw [len_cut12, Ro.len_ros]
set_option maxRecDepth 100000 in
set_option maxHeartbeats 1000000 in
theorem trees1 (K : Nat) (A : Option Addr) (c : Nat) (l : List Cw) (w : World) (hr : Rr w K A l) (hK : K ≤ w.heap.size) (hc : l.length ≤ c) (hm : c ≤ maxLen) :
    Calls Try.prog 5 #[.slice A l.length c] w fun e w' => ∃ v l', e = .returned v ∧ Ow w.heap.size w' v l' ∧ (∀ x ∈ l', Att w' K x) ∧ ros l' = cut12 (ros l) ∧ Below w.heap.size w w' := by
  unfold maxLen at hm
  go_enter Try.func5, Try.ntmps5
  go_wp2
  go_loopw [3, 4] (fun v i wr => ∃ (k : Nat) (acc : List Cw), i = .int .i64 k ∧ k ≤ l.length ∧ k ≤ 12 ∧ acc.length = k ∧ Ow w.heap.size wr v acc ∧ (∀ x ∈ acc, Att wr K x) ∧ ros acc = (cut12 (ros l)).take k ∧ Below w.heap.size w wr) (fun _ i _ => l.length - (intOf i).toNat)
  case atStart => exact ⟨0, [], rfl, by omega, by omega, rfl, Ow.made w, fun _ h => by simp at h, rfl, below_new w _⟩
  case round =>
    obtain ⟨k, acc, rfl, hk, hk6, hal, hown, hatt, hros, hbel⟩ := hrel
    have hsz := hbel.size
    by_cases hp : k < l.length
    · by_cases hp6 : k < 12
      · obtain ⟨b, off, x, rfl, hb, hdx, hx, hxa, hxm⟩ := (hr.below hbel hK).at_ k hp
        have hs : ros acc ++ [{ x.ro with attrs := x.ro.attrs.take 4 }] = (cut12 (ros l)).take (k + 1) := by rw [hros, cut12_at' (getElem_of_drop hdx) hp6]
        have hca := cut4 hxa
        obtain ⟨ys, hys⟩ : ∃ ys, x.ro.attrs.take 4 = ys := ⟨_, rfl⟩
        have hyl : ys.length = min x.ro.attrs.length 4 := by rw [← hys, List.length_take, Nat.min_comm]
        rw [hys] at hs hca
        have hmin := fun w => Ro.min_any x.ro.attrs.length 4 4 rfl ys.length hyl w
        have hyc : ys.length ≤ x.c := hca.1
        have hxc := hxa.1
        have hxm2 := hxa.2.2.1
        unfold maxLen at hxm2
        have HS := Lib.hid hs; have HOW := Lib.hid hown; have HATT := Lib.hid hatt; have HAL := Lib.hid hal; have HCA := Lib.hid hca
        have HC1 : Hid (Att wr wr.heap.size (Ro.cut x ys)) := Lib.hid (hca.more (Nat.le_trans hK hsz))
        have HC2 : Hid (Ap wr w.heap.size (Ro.cut x ys)) := Lib.hid (hca.more hK).apart
        have HC3 : Hid (Att (wr.alloc (rowO (Ro.cut x ys))) (wr.alloc (rowO (Ro.cut x ys))).heap.size (Ro.cut x ys)) := Lib.hid (HC1.out.boxed (Below.refl _ _) _)
        have hacc : acc.length ≤ 2000000 := by omega
        clear hros hdx hs hown hatt hxa hal hca hys hyl
        go_wp2_with (first
          | (refine wpList_load_mid rfl 47 (.tmp 19) rfl b (off + k * 5) rfl _ _ hx Try.underlying47 rfl size_row ?_)
          | (at_builtin; refine app_row _ rfl (.tmp 29) (.tmp 31) rfl w.heap.size _ acc (Ro.cut x ys) rfl (HOW.out.alloc _) HC3.out (HC2.out.below (below_new _ _)) (wr.heap.size + 1) (by simp) rfl hacc (by simp; omega) ?_; intro v3 w3 ho3 hk3 hf3))
        go_roundw
        case rel =>
          have hb3 := hk3 w (hbel.alloc hsz _)
          refine ⟨k + 1, acc ++ [Ro.cut x ys], by go_num, by omega, by omega, by rw [List.length_append, HAL.out]; rfl, ho3, fun z hz => ?_, by rw [ros_append]; exact HS.out, hb3⟩
          have hbw : Below w.heap.size wr w3 := hk3 wr (below_new wr _ |>.mono hsz)
          rcases List.mem_append.1 hz with h | h
          · exact (HATT.out z h).below hbw hK
          · obtain rfl := List.mem_singleton.1 h
            exact HCA.out.below hbw hK
        case measure => simp [intOf]; omega
      · obtain rfl : k = 12 := by omega
        have hrs : ros acc = cut12 (ros l) := by rw [hros, List.take_of_length_le]; rw [len_cut12']; omega
        have HR := Lib.hid hrs
        clear hros hrs
        go_wp2
        go_ret
        exact ⟨_, acc, rfl, hown, hatt, HR.out, hbel⟩
    · have hrs : ros acc = cut12 (ros l) := by rw [hros, List.take_of_length_le]; rw [len_cut12']; omega
      have HR := Lib.hid hrs
      clear hros hrs
      go_wp2
      go_ret
      exact ⟨_, acc, rfl, hown, hatt, HR.out, hbel⟩

set_option maxRecDepth 100000 in
set_option maxHeartbeats 1000000 in
theorem nums11 (A B : Option Addr) (ca cb : Nat) (xs ys : List Nat) (w : World) (hra : Rn w w.heap.size A xs) (hrb : Rn w w.heap.size B ys) (hca : xs.length ≤ ca) (hcb : ys.length ≤ cb) (hma : ca ≤ maxLen) (hmb : cb ≤ maxLen) :
    Calls Try.prog 40 #[.slice A xs.length ca, .slice B ys.length cb] w fun e w' => e = .returned (.bool (decide (xs = ys))) ∧ ∃ n, w' = w.drewN n := by
  unfold maxLen at hma hmb
  by_cases hlen : xs.length = ys.length
  · obtain ⟨V, hV⟩ : ∃ V, decide (xs = ys) = V := ⟨_, rfl⟩
    rw [hV]
    have hne : ((xs.length : Int) != (ys.length : Int)) = false := by rw [hlen]; simp
    have HV := Lib.hid hV; have HL := Lib.hid hlen
    clear hV hlen
    go_enter Try.func40, Try.ntmps40
    go_wp2
    go_loopw [5] (fun i wr => ∃ k : Nat, i = .int .i64 k ∧ k ≤ xs.length ∧ decide (xs.drop k = ys.drop k) = V ∧ ∃ n, wr = w.drewN n) (fun i _ => xs.length - (intOf i).toNat)
    case atStart => exact ⟨0, rfl, by omega, HV.out, 0, rfl⟩
    case round =>
      clear HV
      obtain ⟨k, rfl, hk, hv, n, rfl⟩ := hrel
      by_cases hp : k < xs.length
      · obtain ⟨b1, o1, x, rfl, _, hdx, hx⟩ := hra.at_ k hp
        have hp2 : k < ys.length := by have := HL.out; omega
        obtain ⟨b2, o2, y, rfl, _, hdy, hy⟩ := hrb.at_ k hp2
        rw [hdx, hdy] at hv
        obtain ⟨v1, v2⟩ := dec_cons hv
        clear hv hdx hdy
        by_cases hxy : x = y
        · subst hxy
          have HV := Lib.hid (v1 rfl)
          have hne2 : ((x : Int) != (x : Int)) = false := by simp
          clear v1 v2
          go_wp2
          go_quiet (fail)
          go_wp2
          go_roundw
          case rel => exact ⟨k + 1, by go_num, by omega, HV.out, _, rfl⟩
          case measure => simp [intOf]; omega
        · obtain rfl := v2 hxy
          have hne2 : ((x : Int) != (y : Int)) = true := by rw [bne_iff_ne]; omega
          clear v1 v2 hxy
          go_wp2
          go_quiet (fail)
          go_wp2
          go_ret
          exact ⟨rfl, _, World.drewN_drewN _ _ _⟩
      · rw [List.drop_eq_nil_of_le (by omega), List.drop_eq_nil_of_le (by have := HL.out; omega)] at hv
        have HV := Lib.hid hv
        clear hv
        go_wp2
        go_ret
        exact ⟨ret_bool (by rw [← HV.out]; rfl), _, rfl⟩
  · have e : decide (xs = ys) = false := decide_eq_false fun e => hlen (by rw [e])
    rw [e]
    have hne : ((xs.length : Int) != (ys.length : Int)) = true := by rw [bne_iff_ne]; omega
    clear e hlen
    go_enter Try.func40, Try.ntmps40
    go_wp2
    go_ret
    exact ⟨rfl, 0, rfl⟩

theorem nw_rn {K : Nat} {w : World} {v : Value} {l : List Nat} (h : Nw K w v l) : ∃ A c, v = .slice A l.length c ∧ l.length ≤ c ∧ c ≤ maxLen ∧ Rn w w.heap.size A l := by
  obtain ⟨A, c, hv, hat⟩ := nw_at h
  obtain ⟨A', c', hv', h1, h2⟩ : ∃ A c, v = .slice A l.length c ∧ l.length ≤ c ∧ c ≤ maxLen := by
    rcases h.2 with ⟨hv, h0⟩ | ⟨g, cap, cur, hv, hg, hh, hn, hm, hs, ht⟩
    · exact ⟨none, 0, by rw [h0]; exact hv, by omega, Nat.zero_le _⟩
    · exact ⟨_, cap, hv, hn, hm⟩
  rw [hv] at hv'
  injection hv' with e1 e2 e3
  subst e1 e3
  refine ⟨A, c, hv, h1, h2, fun h0 => ?_⟩
  obtain ⟨b, hA, _, hb, hcell⟩ := hat h0
  refine ⟨b, 0, hA, hb, fun j hj => ?_⟩
  rw [Nat.zero_add]
  exact hcell j hj
/-- The laws' nums over values that read as numbers. -/
theorem nums1 {K L : Nat} {u v : Value} {xs ys : List Nat} (w : World) (hu : Nw K w u xs) (hv : Nw L w v ys) (q : Bool) (hq : decide (xs = ys) = q) : Calls Try.prog 40 #[u, v] w fun e w' => e = .returned (.bool q) ∧ Below w.heap.size w w' := by
  obtain ⟨A, c, rfl, h1, h2, h3⟩ := nw_rn hu
  obtain ⟨B, d, rfl, h4, h5, h6⟩ := nw_rn hv
  subst hq
  refine (nums11 A B c d xs ys w h3 h6 h1 h4 h2 h5).mono ?_
  rintro e w' ⟨rfl, n, rfl⟩
  exact ⟨rfl, below_dN11 (Below.refl _ _) n⟩
end Go.Proofs.Ytfnffplnoicjcaa.Ar

namespace Go.Proofs.Ytfnffplnoicjcaa.Ar
set_option maxRecDepth 100000
set_option linter.unusedSimpArgs false
set_option linter.unusedVariables false
open Go.RowKit Ba
open Ro (At Ro Cw ros Rr Ow Nw Fr Att Ap Sh cells acells app_num below_new infoI info_row len_cells)
/-- A slice of one's own; if it is cut at its end it is full. -/
def Of (w : World) (N : Nat) (t : TypeId) (s : Nat) (A : Option Addr) (n c : Nat) (xs : List Value) : Prop :=
  w.ownsRow N t s (.slice A n c) n xs ∨ (c = n ∧ xs.length = n * s ∧ n ≤ maxLen ∧ ∃ g cur, A = some ⟨g, 0, none⟩ ∧ N ≤ g ∧ w.heap[g]? = some (.cells cur t (0, 0)) ∧ n * s ≤ cur.size ∧ cur.toList.take (n * s) = xs)
section
variable {w w' : World} {N s n c : Nat} {t : TypeId} {A : Option Addr} {xs : List Value}
theorem Of.len (h : Of w N t s A n c xs) : xs.length = n * s := by
  rcases h with h | ⟨_, h, _⟩
  · exact h.1
  · exact h
theorem Of.obj (h : Of w N t s A n c xs) : (A = none ∧ n = 0 ∧ c = 0) ∨ ∃ g cur, A = some ⟨g, 0, none⟩ ∧ N ≤ g ∧ g < w.heap.size ∧ w.heap[g]? = some (.cells cur t (0, 0)) ∧ n * s ≤ cur.size ∧ cur.toList.take (n * s) = xs ∧ n ≤ c ∧ c ≤ maxLen := by
  rcases h with h | ⟨rfl, _, hm, g, cur, hA, hN, hh, hs, ht⟩
  · rcases h.2 with ⟨hv, hn⟩ | ⟨g, cap, cur, hv, hN, hh, hn, hm, hs, ht⟩
    · injection hv with h1 h2 h3
      exact .inl ⟨h1, h2, h3⟩
    · injection hv with h1 h2 h3
      subst h3
      refine .inr ⟨g, cur, h1, hN, (Array.getElem?_eq_some_iff.1 hh).1, hh, ?_, ht, hn, hm⟩
      rw [hs]
      exact Nat.mul_le_mul_right _ hn
  · exact .inr ⟨g, cur, hA, hN, (Array.getElem?_eq_some_iff.1 hh).1, hh, hs, ht, Nat.le_refl _, hm⟩
theorem Of.cap (h : Of w N t s A n c xs) : n ≤ c ∧ c ≤ maxLen := by
  rcases h.obj with ⟨_, rfl, rfl⟩ | ⟨_, _, _, _, _, _, _, _, h⟩
  · exact ⟨Nat.le_refl _, Nat.zero_le _⟩
  · exact h
theorem Of.block (h : Of w N t s A n c xs) (hb : ∀ g, A = some ⟨g, 0, none⟩ → w'.heap[g]? = w.heap[g]?) : Of w' N t s A n c xs := by
  rcases h with h | ⟨rfl, hl, hm, g, cur, hA, hN, hh, hs, ht⟩
  · refine .inl (owns_block h fun g hg => ?_)
    have hof : Of w N t s A n c xs := Or.inl h
    rcases hof.obj with ⟨hA, _⟩ | ⟨g', cur, hA, _⟩
    · rw [hA] at hg
      cases hg
    · rw [hA] at hg
      obtain rfl : g' = g := Option.some.inj hg
      exact hb _ hA
  · exact .inr ⟨rfl, hl, hm, g, cur, hA, hN, (hb g hA).trans hh, hs, ht⟩
theorem Of.below {K : Nat} (h : Of w N t s A n c xs) (hb : Below K w w') (hK : w.heap.size ≤ K := by exact Nat.le_refl _) : Of w' N t s A n c xs := h.block fun g hA => by
  rcases h.obj with ⟨hA', _⟩ | ⟨g', cur, hA', _, hlt, _⟩
  · rw [hA'] at hA
    cases hA
  · rw [hA'] at hA
    cases hA
    exact hb.block g (by omega)
theorem Of.mono {N' : Nat} (h : Of w N t s A n c xs) (hN : N' ≤ N) : Of w N' t s A n c xs := by
  rcases h with h | ⟨rfl, hl, hm, g, cur, hA, hN', hh, hs, ht⟩
  · exact .inl (World.ownsRow.mono h hN)
  · exact .inr ⟨rfl, hl, hm, g, cur, hA, by omega, hh, hs, ht⟩
/-- Its cells. -/
theorem Of.cells (h : Of w N t s A n c xs) {g : Nat} (hA : A = some ⟨g, 0, none⟩) (j : Nat) (u : Value) (hu : xs[j]? = some u) : w.cell? ⟨g, j, none⟩ = some u ∧ w.frozen? ⟨g, j, none⟩ = false := by
  rcases h.obj with ⟨hA', _⟩ | ⟨g', cur, hA', _, _, hh, _, ht, _⟩
  · rw [hA'] at hA
    cases hA
  · rw [hA'] at hA
    cases hA
    have hj : j < n * s := by
      have := (List.getElem?_eq_some_iff.1 hu).1
      rw [h.len] at this
      exact this
    rw [← ht, List.getElem?_take, if_pos hj] at hu
    constructor
    · unfold World.cell?
      rw [hh]
      simpa using hu
    · unfold World.frozen?
      rw [hh]
      rfl
/-- Cut at its end: what is ahead of a place. -/
theorem Of.cut (h : Of w N t s A n c xs) {k : Nat} (hk : k ≤ n) : Of w N t s A k k (xs.take (k * s)) := by
  have hl := h.len
  have hks : k * s ≤ n * s := Nat.mul_le_mul_right _ hk
  rcases h.obj with ⟨hA, rfl, rfl⟩ | ⟨g, cur, hA, hN, _, hh, hs, ht, hn, hm⟩
  · obtain rfl : k = 0 := by omega
    refine .inl ⟨by simp, .inl ⟨by rw [hA], rfl⟩⟩
  · refine .inr ⟨rfl, by rw [List.length_take]; omega, by omega, g, cur, hA, hN, hh, by omega, ?_⟩
    rw [← ht, List.take_take, Nat.min_eq_left hks]
/-- One of its cells changed. -/
theorem Of.store (h : Of w N t s A n c xs) {g : Nat} (hA : A = some ⟨g, 0, none⟩) (j : Nat) (u : Value) : Of (w.setCell ⟨g, j, none⟩ u) N t s A n c (xs.set j u) := by
  rcases h with h | ⟨rfl, hl, hm, g', cur, hA', hN, hh, hs, ht⟩
  · subst hA
    exact .inl (World.ownsRow.stored h j u).1
  · rw [hA'] at hA
    cases hA
    refine .inr ⟨rfl, by rw [List.length_set]; exact hl, hm, g, cur.setIfInBounds j u, hA', hN, ?_, by simpa using hs, ?_⟩
    · simp [World.setCell, Array.getElem?_modify, hh]
    · rw [Array.toList_setIfInBounds, List.take_set, ht]
end
end Go.Proofs.Ytfnffplnoicjcaa.Ar
