/-
  Walk of stage 6's law TokenBack: it returns true. Ahead of it: what a start tag of names that may be, an end tag, and texts around a tag come back as.
-/
import Derived.Test.YtjhhhlomkfnniaaDoorTokGoodAll
import Derived.Test.YtjhhhlomkfnniaaDoorNamesFacts
import Derived.Test.YtjhhhlomkfnniaaDoorTokLawsB
import Derived.Test.YtjhhhlomkfnniaaDoorTokBoxes
import Derived.Test.YtjhhhlomkfnniaaDoorNamesAttr
import Derived.Deep.CutBlock
import Derived.Deep.DeepCutAuto
namespace Go.Proofs.YtjhhhlomkfnniaaDoor.Tm
set_option linter.unusedVariables false
set_option linter.unusedSimpArgs false
open Ba Fm Rm Nm
open Ro (At)

theorem el_out {c : UInt8} (h : elB c = true) : sp c = false ∧ low c = c ∧ c ≠ 47 ∧ c ≠ 62 := by
  unfold elB at h
  rw [Bool.not_eq_true'] at h
  simp only [Bool.or_eq_false_iff] at h
  obtain ⟨⟨⟨⟨h1, h2⟩, _⟩, h4⟩, h5⟩ := h
  refine ⟨h1, ?_, by simpa using h4, by simpa using h5⟩
  unfold low
  rw [if_neg]
  rintro ⟨a, b⟩
  rw [decide_eq_true a, decide_eq_true b] at h2
  cases h2
theorem el_en {c : UInt8} (h : elB c = true) : en c = false ∧ low c = c := by
  obtain ⟨h1, h2, h3, h4⟩ := el_out h
  refine ⟨?_, h2⟩
  unfold en ev
  rw [h1]
  simp [h3, h4]
theorem nm_right {n : ByteArray} (h : rightB n = true) : nmOk (L n) := by
  have hel := Nm.el_of_right h
  unfold rightB rightL at h
  cases hn : L n with
  | nil => rw [hn] at h; cases h
  | cons c r =>
    rw [hn] at h hel
    have h : (small c && (c :: r).all elB) = true := h
    rw [Bool.and_eq_true] at h
    refine ⟨?_, fun x hx => el_en (hel x hx)⟩
    show lr c = true
    have h1 := h.1
    unfold small at h1
    unfold lr
    rw [h1, Bool.or_true]
theorem a_attr {a : At} (h : attrB a.name = true) : aOk a := by
  have hat := Nm.at_of_attr h
  unfold attrB attrL at h
  cases hn : L a.name with
  | nil => rw [hn] at h; cases h
  | cons c r =>
    rw [hn] at hat
    obtain ⟨h1, h2, h3, h4⟩ := el_out (Nm.el_of_at (hat c List.mem_cons_self))
    refine ⟨c, r, hn, h4, h3, h1, h2, fun x hx => ?_⟩
    have hx1 := hat x (List.mem_cons_of_mem _ hx)
    obtain ⟨k1, k2⟩ := el_en (Nm.el_of_at hx1)
    refine ⟨?_, k2⟩
    unfold atB at hx1
    rw [Bool.and_eq_true, Bool.not_eq_true'] at hx1
    have h61 := hx1.2
    simp only [Bool.or_eq_false_iff] at h61
    unfold ea
    rw [k1, h61.2]
    rfl
/-- A start tag and its end come back. -/
theorem tags_back {n : ByteArray} {l : List At} (hn : rightB n = true) (ha : ∀ a ∈ l, attrB a.name = true) (hp : l.Pairwise fun a b => a.name ≠ b.name) (sf : Bool) :
    cut (wAll false [⟨1, n, ⟨#[]⟩, l, sf⟩, ⟨2, n, ⟨#[]⟩, [], false⟩]) = [⟨1, n, ⟨#[]⟩, l, sf⟩, ⟨2, n, ⟨#[]⟩, [], false⟩] := by
  have h1 := nm_right hn
  have h2 : asOk l := ⟨fun a h => a_attr (ha a h), hp⟩
  have e1 : (⟨1, n, ⟨#[]⟩, l, sf⟩ : Tk) = ⟨1, B (L n), B [], l, sf⟩ := by rw [B_L]; rfl
  have e2 : (⟨2, n, ⟨#[]⟩, [], false⟩ : Tk) = ⟨2, B (L n), B [], [], false⟩ := by rw [B_L]; rfl
  rw [e1, e2]
  have hE : EndOf (L n) [⟨2, B (L n), B [], [], false⟩] := .inr ⟨[], rfl⟩
  have hg : Good [⟨1, B (L n), B [], l, sf⟩, ⟨2, B (L n), B [], [], false⟩] := by
    cases hso : softOr (L n) with
    | false => exact .start _ _ _ _ h1 h2 hso (.end_ _ _ h1 .nil)
    | true =>
      obtain ⟨s1, s2⟩ := soft_lead (e := []) (by simp) hE
      rw [List.nil_append] at s1 s2
      exact .none_ _ _ _ _ h1 h2 hso hE.w.2.1 (hE.w.1 true) s1 s2 (.end_ _ _ h1 .nil)
  have hc := good_cut hg [] [] clo_nil
  rw [List.nil_append] at hc
  rw [hc, fin_other (show (1 : Int) ≠ 0 by decide), fin_other (show (2 : Int) ≠ 0 by decide)]
  rfl
/-- Texts around a tag come back. -/
theorem texts_back {u : ByteArray} (hu : L u ≠ []) : cut (wAll false [⟨0, ⟨#[]⟩, u, [], false⟩, ⟨1, ⟨#[98]⟩, ⟨#[]⟩, [], false⟩, ⟨0, ⟨#[]⟩, u, [], false⟩]) = [⟨0, ⟨#[]⟩, u, [], false⟩, ⟨1, ⟨#[98]⟩, ⟨#[]⟩, [], false⟩, ⟨0, ⟨#[]⟩, u, [], false⟩] := by
  have e1 : (⟨0, ⟨#[]⟩, u, [], false⟩ : Tk) = tx (L u) := by unfold tx; rw [B_L]; rfl
  rw [e1]
  have hb : nmOk [98] := by
    refine ⟨by decide, fun c hc => ?_⟩
    rw [List.mem_singleton.1 hc]
    decide
  have hg : Good [tx (L u), ⟨1, B [98], B [], [], false⟩, tx (L u)] := .text _ _ hu (.start _ _ _ _ hb asOk_nil (by decide) (.text _ _ hu .nil))
  have hc := good_cut hg [] [] clo_nil
  rw [List.nil_append] at hc
  show cut (wAll false [tx (L u), ⟨1, B [98], B [], [], false⟩, tx (L u)]) = [tx (L u), ⟨1, B [98], B [], [], false⟩, tx (L u)]
  rw [hc, fin_text (show (tx (L u)).kind = 0 from rfl), fin_other (show (1 : Int) ≠ 0 by decide), show holds ⟨1, B [98], B [], [], false⟩ = false by decide, fin_text (show (tx (L u)).kind = 0 from rfl)]
  have e2 : L (tx (L u)).data = L u := by show L (B (L u)) = _; rw [L_B]
  rw [e2, List.nil_append]
  show txt (L u) ++ (_ :: txt (L u)) = _
  rw [txt_some hu]
  rfl

end Go.Proofs.YtjhhhlomkfnniaaDoor.Tm

namespace Go.Proofs.YtjhhhlomkfnniaaDoor.To
set_option linter.unusedSimpArgs false
set_option linter.unusedVariables false
open Go.RowKit Ba Fm Fo Tm Sm Nm
open Ro (below_new At acells len_acells Sh Ra range2)
open Re (Tab)

/-- What the loop over a token's attributes has come to. -/
structure Bl (w wr : World) (x : Tw) (g2 g5 k : Nat) (A : Option Addr) (c : Nat) (al : List At) : Prop where
  k_le : k ≤ x.tk.attrs.length
  k6 : k ≤ 6
  b2 : Tb wr g2 x
  b5 : Tb wr g5 ⟨⟨1, x.tk.name, ⟨#[]⟩, al, x.tk.self⟩, A, c⟩
  own : Aw w.heap.size wr (.slice A al.length c) al
  bel : Below w.heap.size w wr
  len : al.length = k
  att : ∀ a ∈ al, attrB a.name = true ∧ a.name.size ≤ 1048576 ∧ a.value.size ≤ 200
  pw : al.Pairwise fun a b => a.name ≠ b.name
theorem Bl.below {w wr w' : World} {x : Tw} {g2 g5 k c : Nat} {A : Option Addr} {al : List At} (h : Bl w wr x g2 g5 k A c al) (hb : Below wr.heap.size wr w') : Bl w w' x g2 g5 k A c al :=
  ⟨h.k_le, h.k6, h.b2.below hb, h.b5.below hb, h.own.below hb, h.bel.trans (hb.mono h.bel.size), h.len, h.att, h.pw⟩
theorem Bl.drew {w wr : World} {x : Tw} {g2 g5 k c : Nat} {A : Option Addr} {al : List At} (h : Bl w wr x g2 g5 k A c al) (n : Nat) : Bl w (wr.drewN n) x g2 g5 k A c al :=
  ⟨h.k_le, h.k6, h.b2, h.b5, h.own, below_dN h.bel n, h.len, h.att, h.pw⟩
theorem name_le {x : Tw} {a : At} (h : a ∈ x.tk.attrs) (hb : bulkT x.tk ≤ 1048576) : a.name.size ≤ 1048576 := by
  have h1 : a.name.size + a.value.size ≤ bulkA x.tk.attrs := by
    obtain ⟨j, hj, rfl⟩ := List.getElem_of_mem h
    exact bulk_at _ j hj
  unfold bulkT at hb
  omega
theorem bulk_few {al : List At} (h : ∀ a ∈ al, a.name.size ≤ 1048576 ∧ a.value.size ≤ 200) : bulkA al ≤ al.length * 1048776 := by
  induction al with
  | nil => simp [bulkA]
  | cons a r ih =>
    have e : bulkA (a :: r) = a.name.size + a.value.size + bulkA r := by simp [bulkA]
    have h1 := h a List.mem_cons_self
    have h2 := ih fun b hb => h b (List.mem_cons_of_mem _ hb)
    rw [e, List.length_cons, Nat.add_mul]
    omega

set_option maxRecDepth 100000 in
set_option maxHeartbeats 16000000 in
theorem law_back (x : Tw) (b : ByteArray) (w : World) (hx : Att w w.heap.size x) (hbk : bulkT x.tk ≤ 1048576) (hb : b.size ≤ 140737488351232) (hT : Tab w) :
    Calls Tryd.prog 7 #[tokV x, .string b] w fun e w' => e = .returned (.bool true) ∧ Below w.heap.size w w' := by
  have hnm : x.tk.name.size ≤ 1048576 := by unfold bulkT at hbk; omega
  have HT := Lib.hid hT; have HX := Lib.hid hx; have HBK := Lib.hid hbk; clear hT hx hbk
  go_enter Tryd.func7, Tryd.ntmps7
  go_upto_block 0 with fail
  have hx1 : Tb (w.alloc (tokO x)) w.heap.size x := Tb.new w x
  have hst : Bl w ((w.alloc (tokO x)).alloc (.cells #[.int .i64 1, .string x.tk.name, .string ⟨#[]⟩, .slice none 0 0, .bool x.tk.self] 35)) x w.heap.size (w.alloc (tokO x)).heap.size 0 none 0 [] :=
    ⟨Nat.zero_le _, Nat.zero_le _, hx1.below (below_new _ _), Tb.new _ ⟨⟨1, x.tk.name, ⟨#[]⟩, [], x.tk.self⟩, none, 0⟩, Aw.nil _ _, bt (below_new w _) (below_new _ _), rfl, (fun a ha => by cases ha), List.Pairwise.nil⟩
  have e1 : (w.alloc (tokO x)).heap.size = w.heap.size + 1 := by simp
  rw [e1] at hst
  have hne25 : w.heap.size ≠ w.heap.size + 1 := by omega
  have hg5 : w.heap.size ≤ w.heap.size + 1 := by omega
  obtain ⟨g2, hg2⟩ : ∃ g, w.heap.size = g := ⟨_, rfl⟩
  obtain ⟨g5, hg5e⟩ : ∃ g, w.heap.size + 1 = g := ⟨_, rfl⟩
  have hst : Bl w ((w.alloc (tokO x)).alloc (.cells #[.int .i64 1, .string x.tk.name, .string ⟨#[]⟩, .slice none 0 0, .bool x.tk.self] 35)) x g2 g5 0 none 0 [] := by rw [← hg2, ← hg5e]; exact hst
  rw [hg5e, hg2] at hne25
  rw [hg5e] at hg5
  rw [hg5e, hg2]
  clear hx1 e1 hg2 hg5e
  generalize (w.alloc (.cells #[.int .i64 x.tk.kind, .string x.tk.name, .string x.tk.data, .slice x.A x.tk.attrs.length x.c, .bool x.tk.self] 35)).alloc (.cells #[.int .i64 1, .string x.tk.name, .string ⟨#[]⟩, .slice none 0 0, .bool x.tk.self] 35) = W2 at *
  have HST := Lib.hid hst; clear hst
  go_cut [6, 7, 8] from 16 to 67 (fun _ _ _ wx => ∃ k al A c, Bl w wx x g2 g5 k A c al)
  case first =>
    go_wp2_with fail
    go_loopw [6, 7, 8] (fun v6 _ _ wr => ∃ k al A c, v6 = .int .i64 ((k : Nat) : Int) ∧ Bl w wr x g2 g5 k A c al) (fun v6 _ _ _ => 6 - (intOf v6).toNat)
    case atStart => exact ⟨0, [], none, 0, rfl, HST.out⟩
    case round =>
      clear HST
      obtain ⟨k, al, A, c, rfl, hbl⟩ := hrel
      have hk6 := hbl.k6
      have hkl := hbl.k_le
      obtain ⟨y0, y1, y2, y3, y4⟩ := hbl.b2.c
      by_cases hp : k < x.tk.attrs.length
      · have hlt : decide ((k : Int) < x.tk.attrs.length) = true := decide_eq_true (by omega)
        by_cases hp6 : k < 6
        · have hlt6 : decide ((k : Int) < 6) = true := decide_eq_true (by omega)
          have hatt := HX.out.below hbl.bel
          obtain ⟨bl, off, a, hA, hbN, hdrop, hrange, hmem⟩ := hatt.2.2.2.1.at_ k hp
          obtain ⟨c0, c1⟩ := range2 hrange
          rw [hA] at y3
          obtain ⟨m, hm1, hm2, hm3, -⟩ := min_any a.value.size 200 200 rfl w
          have hmin : ∀ W ts t, (Builtin.min_ ts t #[.int .i64 a.value.size, .int .i64 200]).run Tryd.prog W = .ok (.int .i64 m) W := fun W ts t => by
            obtain ⟨m', _, _, hm', h⟩ := min_any a.value.size 200 200 rfl W
            obtain rfl : m' = m := by omega
            exact h ts t
          clear hA hm3
          have hal : al.length ≤ 6 := by have := hbl.len; omega
          have hb7 := below_new wr (.cells #[.string a.name, .string (a.value.extract 0 m)] 37)
          have hbx := Bx.new wr a.name (a.value.extract 0 m)
          have hbl7 := hbl.below hb7
          have hvs : (a.value.extract 0 m).size ≤ 200 := Nat.le_trans (cut_size _ _) hm2
          have hns := name_le hmem HBK.out
          have HX7 := Lib.hid hbx; have HBL7 := Lib.hid hbl7; have HBL := Lib.hid hbl; clear hb7 hbx hbl7 hbl hatt hmem hdrop hrange
          go_wp2_with fail
          obtain ⟨vv, hvv⟩ : ∃ v, a.value.extract 0 m = v := ⟨_, rfl⟩
          rw [hvv] at HX7 HBL7 hvs ⊢
          clear hmin hvv
          generalize wr.alloc (.cells #[.string a.name, .string vv] 37) = W7 at *
          obtain ⟨g7, hg7⟩ : ∃ g, wr.heap.size = g := ⟨_, rfl⟩
          rw [hg7] at HX7 ⊢
          clear hg7 y0 y1 y2 y3 y4 c0 c1
          obtain ⟨z0, z1, z2, z3, z4⟩ := HBL7.out.b5.c
          have x0 := HX7.out.c0; have x1 := HX7.out.c1
          have p3 := HBL7.out.b5.f 3
          go_loopw [8] (fun j wq => ∃ i : Nat, j = .int .i64 i ∧ i ≤ al.length ∧ (∀ y ∈ al.take i, y.name ≠ a.name) ∧ ∃ n, wq = W7.drewN n) (fun j _ => al.length - (intOf j).toNat)
          case atStart => exact ⟨0, rfl, Nat.zero_le _, (fun y hy => by simp at hy), 0, rfl⟩
          case round =>
            obtain ⟨i, rfl, hi, hny, n, rfl⟩ := hrel
            have HNY := Lib.hid hny; clear hny
            by_cases hpi : i < al.length
            · have hilt : decide ((i : Int) < al.length) = true := decide_eq_true (by omega)
              obtain ⟨bb, ob, q, hA2, _, hdq, hrq, _⟩ := HBL7.out.own.ra.at_ i hpi
              rw [hA2] at z3
              obtain ⟨f1, f2⟩ := range2 hrq
              have heq := eq_of_toList (a := q.name) (b := a.name)
              have hqi : al[i]? = some q := Ro.getElem_of_drop hdq
              by_cases he : q.name = a.name
              · rw [decide_eq_true he] at heq
                clear he hA2 hdq hrq hqi
                go_wp2
                go_quiet (fail)
                go_wp2_with fail
                refine (fixed_any _ (HT.out.below (below_dN HBL7.out.bel _))).mono ?_
                rintro e wf ⟨rfl, bf⟩
                go_wp2
                go_ret
                exact ⟨rfl, bt (below_dN HBL7.out.bel _) bf⟩
              · rw [decide_eq_false he] at heq
                have HE := Lib.hid he; have HQI := Lib.hid hqi; clear he hA2 hdq hrq hqi
                go_wp2
                go_quiet (fail)
                go_wp2
                go_roundw
                case rel =>
                  refine ⟨i + 1, by go_num, by omega, fun y hy => ?_, _, rfl⟩
                  rw [List.take_succ_eq_append_getElem hpi] at hy
                  rcases List.mem_append.1 hy with hy | hy
                  · exact HNY.out y hy
                  · rw [List.mem_singleton.1 hy]
                    have : al[i] = q := by have := HQI.out; rw [List.getElem?_eq_getElem hpi] at this; exact Option.some.inj this
                    rw [this]; exact HE.out
                case measure => simp [intOf]; omega
            · have hilt : decide ((i : Int) < al.length) = false := decide_eq_false (by omega)
              have hall : ∀ y ∈ al, y.name ≠ a.name := fun y hy => HNY.out y (by rw [List.take_of_length_le (by omega)]; exact hy)
              have HAL := Lib.hid hall; clear hall
              have hbl8 := HBL7.out.drew n
              have hx8 : Bx (W7.drewN n) g7 a.name vv := HX7.out
              have HBL8 := Lib.hid hbl8; have HX8 := Lib.hid hx8; clear hbl8 hx8 z0 z1 z2 z3 z4 x0 x1 p3
              generalize W7.drewN n = W8 at *
              obtain ⟨z0, z1, z2, z3, z4⟩ := HBL8.out.b5.c
              have x0 := HX8.out.c0; have x1 := HX8.out.c1
              have p3 := HBL8.out.b5.f 3
              go_wp2_with fail
              refine (Na.attr_any a.name _ (by omega)).mono ?_
              rintro e w' ⟨rfl, rfl⟩
              cases hq : attrB a.name with
              | false =>
                go_wp2_with fail
                refine (fixed_any _ (HT.out.below HBL8.out.bel)).mono ?_
                rintro e wf ⟨rfl, bf⟩
                go_wp2
                go_ret
                exact ⟨rfl, bt HBL8.out.bel bf⟩
              | true =>
                have hnm2 : a.name.size ≤ maxLen := by unfold maxLen; omega
                have hl4 : al.length ≤ 4000000000 := by have := HBL8.out.len; omega
                have hZ : w.heap.size ≤ W8.heap.size := HBL8.out.bel.size
                have HQ := Lib.hid hq; clear hq
                go_wp2_with (at_builtin; refine app_attr W8 rfl (.tmp 63) (.tmp 65) rfl w.heap.size (.slice A al.length c) al ⟨a.name, vv⟩ rfl HBL8.out.own hnm2 W8.heap.size rfl rfl hl4 hZ ?_; intro v9 w9 hw9 hg9; obtain ⟨A9, c9, rfl⟩ := hw9.form; have hb59 := HBL8.out.b5.off HBL8.out.own hg9; have p39 := hb59.f 3; have q39 := hb59.c.2.2.2.1; have HW9 := Lib.hid hw9; have HG9 := Lib.hid hg9; have HB59 := Lib.hid hb59; clear hw9 hg9 hb59 z0 z1 z2 z3 z4 x0 x1 p3)
                go_roundw
                case rel =>
                  have h8 := HBL8.out
                  have hbel := h8.bel.grown HG9.out h8.bel.size (fun k hk => (World.ownsRow.lt h8.own.1 k hk).1)
                  have hb5 := HB59.out.set3 A9 c9 (al ++ [⟨a.name, vv⟩])
                  have hown := HW9.out.boxes HB59.out (j := 3) (.slice A9 (al ++ [(⟨a.name, vv⟩ : At)]).length c9)
                  have hlen : (al ++ [(⟨a.name, vv⟩ : At)]).length = al.length + 1 := by simp
                  rw [hlen] at hb5 hown
                  refine ⟨k + 1, al ++ [⟨a.name, vv⟩], A9, c9, by go_num, ⟨by omega, by omega, (h8.b2.off h8.own HG9.out).other hne25 _, hb5, ?_, hbel.setCell hg5 _, by rw [hlen, h8.len], fun y hy => ?_, ?_⟩⟩
                  · rw [hlen]; exact hown
                  · rcases List.mem_append.1 hy with hy | hy
                    · exact h8.att y hy
                    · rw [List.mem_singleton.1 hy]; exact ⟨HQ.out, hns, hvs⟩
                  · rw [List.pairwise_append]
                    refine ⟨h8.pw, by simp, fun y hy z hz => ?_⟩
                    rw [List.mem_singleton.1 hz]
                    exact HAL.out y hy
                case measure => simp [intOf]; omega
        · have hlt6 : decide ((k : Int) < 6) = false := decide_eq_false (by omega)
          have HBL := Lib.hid hbl; clear hbl
          go_wp2
          go_meet
          exact ⟨k, al, A, c, HBL.out⟩
      · have hlt : decide ((k : Int) < x.tk.attrs.length) = false := decide_eq_false (by omega)
        have HBL := Lib.hid hbl; clear hbl
        go_wp2
        go_meet
        exact ⟨k, al, A, c, HBL.out⟩
  case rest =>
    obtain ⟨k, al, A, c, hbl⟩ := hcut
    obtain ⟨wm, hwm⟩ : ∃ z, z = wc := ⟨_, rfl⟩
    subst hwm
    obtain ⟨y0, y1, y2, y3, y4⟩ := hbl.b2.c
    obtain ⟨z0, z1, z2, z3, z4⟩ := hbl.b5.c
    have hk6 := hbl.k6
    have HBL := Lib.hid hbl; clear hbl
    go_wp2_with fail
    refine (Na.right_any x.tk.name _ (by omega)).mono ?_
    rintro e w' ⟨rfl, rfl⟩
    cases hr : rightB x.tk.name with
    | false =>
      go_wp2_with fail
      refine (fixed_any _ (HT.out.below HBL.out.bel)).mono ?_
      rintro e wf ⟨rfl, bf⟩
      go_wp2
      go_ret
      exact ⟨rfl, bt HBL.out.bel bf⟩
    | true =>
      have hal6 : al.length ≤ 6 := by have := HBL.out.len; omega
      have htt := tags_back hr (fun a ha => (HBL.out.att a ha).1) HBL.out.pw x.tk.self
      have hbf := bulk_few (al := al) fun a ha => (HBL.out.att a ha).2
      have tl := Tv.lit wm [⟨⟨1, x.tk.name, ⟨#[]⟩, al, x.tk.self⟩, A, c⟩, ⟨⟨2, x.tk.name, ⟨#[]⟩, [], false⟩, none, 0⟩] (fun z hz => by
        simp only [List.mem_cons, List.not_mem_nil, or_false] at hz
        rcases hz with rfl | rfl
        · exact Fr.att (HBL.out.own.fr _ _ _ _)
        · exact att_none _ _ _ rfl)
      have hbw := below_new wm (.cells ([(⟨⟨1, x.tk.name, ⟨#[]⟩, al, x.tk.self⟩, A, c⟩ : Tw), ⟨⟨2, x.tk.name, ⟨#[]⟩, [], false⟩, none, 0⟩].flatMap cells).toArray 35)
      obtain ⟨u1, hu1⟩ : ∃ u, wAll false [⟨1, x.tk.name, ⟨#[]⟩, al, x.tk.self⟩, ⟨2, x.tk.name, ⟨#[]⟩, [], false⟩] = u := ⟨_, rfl⟩
      have hin : within [] (L (B u1)) = [⟨1, x.tk.name, ⟨#[]⟩, al, x.tk.self⟩, ⟨2, x.tk.name, ⟨#[]⟩, [], false⟩] := by rw [within_nil, L_B, ← hu1]; exact htt
      have hbulk : bulk [⟨1, x.tk.name, ⟨#[]⟩, al, x.tk.self⟩, ⟨2, x.tk.name, ⟨#[]⟩, [], false⟩] ≤ 10000000 := by
        rw [bulk_cons, bulk_one]
        show x.tk.name.size + 0 + bulkA al + al.length + (x.tk.name.size + 0 + 0 + 0) ≤ _
        have : al.length * 1048776 ≤ 6 * 1048776 := Nat.mul_le_mul_right _ hal6
        omega
      have hsz : (B u1).size ≤ 300000000 := by
        rw [size_B, ← hu1]
        have := len_wAll [⟨1, x.tk.name, ⟨#[]⟩, al, x.tk.self⟩, ⟨2, x.tk.name, ⟨#[]⟩, [], false⟩] false
        simp only [List.length_cons, List.length_nil] at this
        omega
      obtain ⟨m, hm1, hm2, hm3, -⟩ := min_any b.size 200 200 rfl w
      have hmin : ∀ W ts t, (Builtin.min_ ts t #[.int .i64 b.size, .int .i64 200]).run Tryd.prog W = .ok (.int .i64 m) W := fun W ts t => by
        obtain ⟨m', _, _, hm', h⟩ := min_any b.size 200 200 rfl W
        obtain rfl : m' = m := by omega
        exact h ts t
      have TL := Lib.hid tl; have BW := Lib.hid (bt HBL.out.bel hbw); have HU1 := Lib.hid hu1; have HIN := Lib.hid hin; have HBU := Lib.hid hbulk; have HSZ := Lib.hid hsz
      clear tl hbw hu1 hin htt hbf hbulk hsz hr hm3
      go_wp2_with fail
      refine (writeT TL.out HBU.out (by rw [len_tks]; simp) u1 HU1.out).mono ?_
      rintro e w1 ⟨rfl, b1⟩
      go_wp2_with fail
      refine (cutT (B u1) w1 _ HSZ.out (HT.out.below (bt BW.out b1)) HIN.out).mono ?_
      rintro e w2 ⟨V2, rfl, t2, b2⟩
      have B2 := bt b1 b2
      go_wp2_with fail
      refine (sameT t2 (TL.out.below B2) (by simp) (by rw [len_tks]; simp) true (by simp; rfl)).mono ?_
      rintro e w3 ⟨rfl, b3⟩
      have B3 := Lib.hid (bt BW.out (bt B2 b3))
      clear t2 b1 b2 b3 B2 TL y0 y1 y2 y3 y4 z0 z1 z2 z3 z4
      obtain ⟨u, hu⟩ : ∃ u, b.extract 0 m = u := ⟨_, rfl⟩
      have hus : u.size ≤ 200 := by rw [← hu]; exact Nat.le_trans (cut_size _ _) hm2
      by_cases hp : 0 < u.size
      · have hne := L_ne hp
        have he : (b.extract 0 m).toList.isEmpty = false := by rw [hu, toList_L]; simpa using hne
        have HU := Lib.hid hu; clear hu
        have htb := texts_back hne
        have tl := Tv.lit w3 [⟨⟨0, ⟨#[]⟩, u, [], false⟩, none, 0⟩, ⟨⟨1, ⟨#[98]⟩, ⟨#[]⟩, [], false⟩, none, 0⟩, ⟨⟨0, ⟨#[]⟩, u, [], false⟩, none, 0⟩] (fun z hz => by
          simp only [List.mem_cons, List.not_mem_nil, or_false] at hz
          rcases hz with rfl | rfl | rfl <;> exact att_none _ _ _ rfl)
        have hbw := below_new w3 (.cells ([(⟨⟨0, ⟨#[]⟩, u, [], false⟩, none, 0⟩ : Tw), ⟨⟨1, ⟨#[98]⟩, ⟨#[]⟩, [], false⟩, none, 0⟩, ⟨⟨0, ⟨#[]⟩, u, [], false⟩, none, 0⟩].flatMap cells).toArray 35)
        obtain ⟨u2, hu2⟩ : ∃ v, wAll false [⟨0, ⟨#[]⟩, u, [], false⟩, ⟨1, ⟨#[98]⟩, ⟨#[]⟩, [], false⟩, ⟨0, ⟨#[]⟩, u, [], false⟩] = v := ⟨_, rfl⟩
        have hin : within [] (L (B u2)) = [⟨0, ⟨#[]⟩, u, [], false⟩, ⟨1, ⟨#[98]⟩, ⟨#[]⟩, [], false⟩, ⟨0, ⟨#[]⟩, u, [], false⟩] := by rw [within_nil, L_B, ← hu2]; exact htb
        have hbulk : bulk [⟨0, ⟨#[]⟩, u, [], false⟩, ⟨1, ⟨#[98]⟩, ⟨#[]⟩, [], false⟩, ⟨0, ⟨#[]⟩, u, [], false⟩] ≤ 1000 := by
          rw [bulk_cons, bulk_cons, bulk_one]
          show 0 + u.size + 0 + 0 + (1 + 0 + 0 + 0 + (0 + u.size + 0 + 0)) ≤ _
          omega
        have hsz : (B u2).size ≤ 300000000 := by
          rw [size_B, ← hu2]
          have := len_wAll [⟨0, ⟨#[]⟩, u, [], false⟩, ⟨1, ⟨#[98]⟩, ⟨#[]⟩, [], false⟩, ⟨0, ⟨#[]⟩, u, [], false⟩] false
          simp only [List.length_cons, List.length_nil] at this
          omega
        have TL := Lib.hid tl; have BW := Lib.hid (bt B3.out hbw); have HU1 := Lib.hid hu2; have HIN := Lib.hid hin; have HBU := Lib.hid hbulk; have HSZ := Lib.hid hsz
        clear tl hbw hu2 hin htb hbulk hsz hne
        go_wp2_with fail
        rw [HU.out]
        clear hmin he
        refine (writeT TL.out (Nat.le_trans HBU.out (by decide)) (by rw [len_tks]; simp) u2 HU1.out).mono ?_
        rintro e w4 ⟨rfl, b4⟩
        go_wp2_with fail
        refine (cutT (B u2) w4 _ HSZ.out (HT.out.below (bt BW.out b4)) HIN.out).mono ?_
        rintro e w5 ⟨V5, rfl, t5, b5⟩
        have B5 := bt b4 b5
        go_wp2_with fail
        refine (sameT t5 (TL.out.below B5) (by simp) (by rw [len_tks]; simp) true (by simp; rfl)).mono ?_
        rintro e w6 ⟨rfl, b6⟩
        have B6 := Lib.hid (bt BW.out (bt B5 b6))
        clear t5 b4 b5 b6 B5 TL
        go_wp2_with fail
        refine (fixed_any _ (HT.out.below B6.out)).mono ?_
        rintro e wf ⟨rfl, bf⟩
        go_wp2
        go_ret
        exact ⟨rfl, bt B6.out bf⟩
      · have hd := isEmpty_L hp
        have he : (b.extract 0 m).toList.isEmpty = true := by rw [hu, toList_L, hd]; rfl
        clear hd hu
        go_wp2_with fail
        refine (fixed_any _ (HT.out.below B3.out)).mono ?_
        rintro e wf ⟨rfl, bf⟩
        go_wp2
        go_ret
        exact ⟨rfl, bt B3.out bf⟩

end Go.Proofs.YtjhhhlomkfnniaaDoor.To
