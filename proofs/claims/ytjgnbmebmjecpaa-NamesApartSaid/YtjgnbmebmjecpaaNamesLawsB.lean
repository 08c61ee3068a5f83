/-
  Walks of stage 5's laws NamesApart, NamesSelf: each returns true.
-/
import Derived.Test.YtjgnbmebmjecpaaNamesLawsA
namespace Go.Proofs.Ytjgnbmebmjecpaa.Na
set_option linter.unusedSimpArgs false
set_option linter.unusedVariables false
open Go.RowKit Ba Fm Fo Nm

/-- What is left of NamesApart behind the counting. -/
theorem sown_rd {N : Nat} {w : World} {v : Value} {l : List ByteArray} (h : Sown N w v l) : ∃ A c, v = .slice A l.length c ∧ (A = none → c = 0) ∧ Rd w w.heap.size A l := by
  obtain ⟨A, c, h1, _, h3, h4⟩ := sv_own h
  exact ⟨A, c, h1, h3, h4⟩

set_option maxRecDepth 100000 in
set_option maxHeartbeats 8000000 in
theorem law_apart (s : ByteArray) (hs : s.size ≤ 140737488351232) (w : World) :
    Calls Try.prog 6 #[.string s] w fun e w' => e = .returned (.bool true) ∧ Below w.heap.size w w' := by
  obtain ⟨hall, _, _, hl1, hl2⟩ := pair_facts s
  obtain ⟨q1, h1⟩ : ∃ q, isIn s voidL = q := ⟨_, rfl⟩
  obtain ⟨q2, h2⟩ : ∃ q, isIn s rawL = q := ⟨_, rfl⟩
  obtain ⟨q3, h3⟩ : ∃ q, isIn s softL = q := ⟨_, rfl⟩
  obtain ⟨q4, h4⟩ : ∃ q, isIn s goneL = q := ⟨_, rfl⟩
  obtain ⟨qb, h5⟩ : ∃ q, isIn s blockL = q := ⟨_, rfl⟩
  obtain ⟨qr, h6⟩ : ∃ q, rightB s = q := ⟨_, rfl⟩
  obtain ⟨r, h7⟩ : ∃ r, closesL s = r := ⟨_, rfl⟩
  obtain ⟨t, h8⟩ : ∃ r, wallsL s = r := ⟨_, rfl⟩
  have hk := kinds s
  have hbr : qb = true → qr = true := fun h => by rw [← h6]; exact block_right (h5.trans h)
  rw [h1, h2, h3, h4, h6] at hk
  rw [h7, h8] at hall
  rw [h7] at hl1
  rw [h8] at hl2
  have H1 := Lib.hid h1; have H2 := Lib.hid h2; have H3 := Lib.hid h3; have H4 := Lib.hid h4; have H5 := Lib.hid h5; have H6 := Lib.hid h6; have H7 := Lib.hid h7; have H8 := Lib.hid h8
  have HALL := Lib.hid hall
  clear h1 h2 h3 h4 h5 h6 h7 h8 hall
  have hfin : ∃ n : Nat, n ≤ 1 ∧ (n = 0 ∧ qb = false ∨ qr = true) ∧ ((if q1 = true then 1 else 0) + (if q2 = true then 1 else 0) + (if q3 = true then 1 else 0) + (if q4 = true then 1 else 0) = n) := by
    rcases hk with ⟨rfl, rfl, rfl, rfl⟩ | ⟨rfl, ⟨rfl, rfl, rfl, rfl⟩ | ⟨rfl, rfl, rfl, rfl⟩ | ⟨rfl, rfl, rfl, rfl⟩ | ⟨rfl, rfl, rfl, rfl⟩⟩
    · refine ⟨0, by omega, ?_, rfl⟩
      cases qb with
      | false => exact .inl ⟨rfl, rfl⟩
      | true => exact .inr (hbr rfl)
    · exact ⟨1, by omega, .inr rfl, rfl⟩
    · exact ⟨1, by omega, .inr rfl, rfl⟩
    · exact ⟨1, by omega, .inr rfl, rfl⟩
    · exact ⟨1, by omega, .inr rfl, rfl⟩
  clear hbr
  obtain ⟨n, hn1, hn2, hn3⟩ := hfin
  rcases hk with ⟨rfl, rfl, rfl, rfl⟩ | ⟨rfl, ⟨rfl, rfl, rfl, rfl⟩ | ⟨rfl, rfl, rfl, rfl⟩ | ⟨rfl, rfl, rfl, rfl⟩ | ⟨rfl, rfl, rfl, rfl⟩⟩
  all_goals
    simp only [Bool.false_eq_true, if_true, if_false, Nat.zero_add, Nat.add_zero] at hn3
    subst hn3
    have HN2 := Lib.hid hn2
    clear hn2 hn1
    go_enter Try.func6, Try.ntmps6
    go_wp2_with fail
    refine (void1 w s _ H1.out).mono ?_
    rintro e w1 ⟨rfl, hb1⟩
    go_wp2_with fail
    refine (raw1 w1 s _ H2.out).mono ?_
    rintro e w2 ⟨rfl, hb2⟩
    have hb2 := bt hb1 hb2
    clear hb1
    go_wp2_with fail
    refine (soft1 w2 s _ H3.out).mono ?_
    rintro e w3 ⟨rfl, hb3⟩
    have hb3 := bt hb2 hb3
    clear hb2
    go_wp2_with fail
    refine (gone1 w3 s _ H4.out).mono ?_
    rintro e w4 ⟨rfl, hb4⟩
    have hb4 := bt hb3 hb4
    clear hb3
    have hm4 := Sown.made w4
    have hbm := bt hb4 (below_one w4 (.cells #[] 9))
    go_wp2_with fail
    refine (closes1 _ s r H7.out).mono ?_
    rintro e w5 ⟨v5, rfl, ho5, hb5⟩
    have hm5 := hm4.below hb5 (Nat.le_refl _)
    have hbm5 := bt hbm hb5
    clear hm4 hb5 hbm
    obtain ⟨A5, c5, rfl, hn5, hr5⟩ := sown_rd ho5
    have hm5 := hm5.mono hb4.size
    have hl5 : ([] : List ByteArray).length + r.length ≤ 100 := by simp; omega
    go_wp2_with (at_builtin; refine app_all w5 rfl (.tmp 22) (.tmp 24) rfl w.heap.size _ [] r A5 c5 w5.heap.size rfl hm5 rfl hn5 hr5 (by omega) hbm5.size ?_; intro v6 w6 ho6 hk6 _)
    rw [List.nil_append] at ho6
    have hb6 := hk6 _ hbm5
    clear hk6 hm5 hr5 hn5 hl5 ho5 hbm5
    go_wp2_with fail
    refine (walls1 w6 s t H8.out).mono ?_
    rintro e w7 ⟨v7, rfl, ho7, hb7⟩
    have ho67 := ho6.below hb7 (Nat.le_refl _)
    have hb7 := bt hb6 hb7
    clear ho6 hb6
    obtain ⟨A7, c7, rfl, hn7, hr7⟩ := sown_rd ho7
    have hl7 : r.length + t.length ≤ 100 := by omega
    go_wp2_with (at_builtin; refine app_all w7 rfl (.tmp 26) (.tmp 28) rfl w.heap.size _ r t A7 c7 w7.heap.size rfl ho67 rfl hn7 hr7 (by omega) hb7.size ?_; intro v8 w8 ho8 hk8 _)
    have hb8 := hk8 _ hb7
    have hlen : (r ++ t).length ≤ 100 := by rw [List.length_append]; omega
    clear hk8 hr7 hn7 hl7 ho67 ho7 hb7 hl1 hl2 hb4
    generalize r ++ t = l at *
    obtain ⟨A8, c8, rfl, _, hr8⟩ := sown_rd ho8
    go_loop [5] (fun i => ∃ k : Nat, i = .int .i64 k ∧ k ≤ l.length) (fun i => l.length - (intOf i).toNat)
    case atStart => exact ⟨0, rfl, Nat.zero_le _⟩
    case round =>
      obtain ⟨k, rfl, hks⟩ := hrel
      by_cases hp : k < l.length
      · obtain ⟨b, off, rfl, _, hc⟩ := hr8 (by omega)
        have hcell := hc k hp
        obtain ⟨hr1, hr2⟩ := HALL.out l[k] (List.getElem_mem _)
        have HR := Lib.hid hr1
        clear hc hr8 hr1 ho8
        generalize l[k] = x at *
        go_wp2_with fail
        refine (right1 w8 x true (by omega) HR.out).mono ?_
        rintro e w9 ⟨rfl, rfl⟩
        go_wp2
        go_round
        case rel => exact ⟨k + 1, by go_num, by omega⟩
        case measure => simp [intOf]; omega
      · clear hr8 ho8 HALL
        rcases HN2.out with ⟨h0, hqb⟩ | hqr
        · first
          | (exfalso; omega)
          | (have H9 := Lib.hid (H5.out.trans hqb)
             clear h0 hqb HN2
             go_wp2_with (first | (go_at_call 18; refine (block1 _ s false H9.out).mono ?_; rintro e w9 ⟨rfl, hb9⟩) | (go_at_call 10; refine (fixed_any _).mono ?_; rintro e w10 ⟨rfl, hb10⟩))
             go_ret
             exact ⟨rfl, bt hb8 (bt hb9 hb10)⟩)
        · have h9 : rightB s = true := by first | exact H6.out | exact H6.out.trans hqr
          have H9 := Lib.hid h9
          clear h9 hqr HN2
          cases qb
          all_goals
            go_wp2_with (first | (go_at_call 18; refine (block1 _ s _ H5.out).mono ?_; rintro e w9 ⟨rfl, hb9⟩) | (go_at_call 28; refine (right1 _ s true (by omega) H9.out).mono ?_; rintro e w11 ⟨rfl, rfl⟩) | (go_at_call 10; refine (fixed_any _).mono ?_; rintro e w10 ⟨rfl, hb10⟩))
            go_ret
            first
            | exact ⟨rfl, bt hb8 hb10⟩
            | exact ⟨rfl, bt hb8 (bt hb9 hb10)⟩

theorem upper_at {s : ByteArray} {k : Nat} (hk : k < s.size) (h1 : (65 : Int) ≤ s[k].toNat) (h2 : (s[k].toNat : Int) ≤ 90) : isIn s voidL = false ∧ isIn s rawL = false ∧ isIn s softL = false ∧ isIn s blockL = false ∧ isIn s goneL = false ∧ rightB s = false ∧ attrB s = false := by
  have e65 : (65 : UInt8).toNat = 65 := rfl
  have e90 : (90 : UInt8).toNat = 90 := rfl
  exact upper (c := s[k]) (List.getElem_mem (by rw [size_L]; exact hk)) (UInt8.le_iff_toNat_le.2 (by rw [e65]; omega)) (UInt8.le_iff_toNat_le.2 (by rw [e90]; omega))

set_option maxRecDepth 100000 in
set_option maxHeartbeats 8000000 in
theorem law_self (s : ByteArray) (hs : s.size ≤ 140737488351232) (w : World) :
    Calls Try.prog 8 #[.string s] w fun e w' => e = .returned (.bool true) ∧ Below w.heap.size w w' := by
  obtain ⟨_, hno, htm, hl1, hl2⟩ := pair_facts s
  obtain ⟨r, h1⟩ : ∃ r, closesL s = r := ⟨_, rfl⟩
  obtain ⟨t, h2⟩ : ∃ t, wallsL s = t := ⟨_, rfl⟩
  rw [h1] at hl1 hno
  rw [h2] at hl2 hno htm
  have H1 := Lib.hid h1; have H2 := Lib.hid h2; have HNO := Lib.hid hno; have HT := Lib.hid htm
  clear h1 h2 hno htm
  go_enter Try.func8, Try.ntmps8
  go_wp2_with fail
  refine (closes1 w s r H1.out).mono ?_
  rintro e w1 ⟨v1, rfl, ho1, hb1⟩
  go_wp2_with fail
  refine (walls1 w1 s t H2.out).mono ?_
  rintro e w2 ⟨v2, rfl, ho2, hb2⟩
  have ho12 := ho1.below hb2 (Nat.le_refl _)
  have hb2 := bt hb1 hb2
  clear ho1 hb1
  obtain ⟨A, c, rfl, _, hr1⟩ := sown_rd ho12
  clear ho12
  go_wp2
  go_loop [5] (fun i => ∃ k : Nat, i = .int .i64 k ∧ k ≤ r.length) (fun i => r.length - (intOf i).toNat)
  case atStart => exact ⟨0, rfl, Nat.zero_le _⟩
  case round =>
    obtain ⟨k, rfl, hks⟩ := hrel
    by_cases hp : k < r.length
    · obtain ⟨b, off, rfl, _, hc⟩ := hr1 (by omega)
      have hcell := hc k hp
      have HQ := Lib.hid (HNO.out r[k] (List.getElem_mem _))
      clear hc hr1
      generalize r[k] = x at *
      go_wp2_with fail
      refine (has1 w2 v2 t x false _ ho2 (by omega) HQ.out).mono ?_
      rintro e w9 ⟨rfl, rfl⟩
      go_wp2
      go_round
      case rel => exact ⟨k + 1, by go_num, by omega⟩
      case measure => simp [intOf]; omega
    · clear hr1 HNO
      go_wp2
      go_loopw [6] (fun i wr => ∃ k : Nat, i = .int .i64 k ∧ k ≤ s.size ∧ Below w2.heap.size w2 wr) (fun i _ => s.size - (intOf i).toNat)
      case atStart => exact ⟨0, rfl, Nat.zero_le _, Below.refl _ _⟩
      case round =>
        obtain ⟨w5, hw5⟩ : ∃ x, x = wr := ⟨_, rfl⟩
        subst hw5
        obtain ⟨m, rfl, hms, hbel⟩ := hrel
        by_cases hpm : m < s.size
        · by_cases g1 : (65 : Int) ≤ s[m].toNat
          · by_cases g2 : (s[m].toNat : Int) ≤ 90
            · obtain ⟨u1, u2, u3, u4, u5, u6, u7⟩ := upper_at hpm g1 g2
              have U1 := Lib.hid u1; have U2 := Lib.hid u2; have U3 := Lib.hid u3; have U4 := Lib.hid u4; have U5 := Lib.hid u5; have U6 := Lib.hid u6; have U7 := Lib.hid u7
              clear u1 u2 u3 u4 u5 u6 u7
              go_wp2_with fail
              refine (void1 w5 s false U1.out).mono ?_
              rintro e w6 ⟨rfl, hb6⟩
              have hbel6 := bt hbel hb6
              clear hb6
              go_wp2_with fail
              refine (raw1 w6 s false U2.out).mono ?_
              rintro e w7 ⟨rfl, hb7⟩
              have hbel7 := bt hbel6 hb7
              clear hb7 hbel6
              go_wp2_with fail
              refine (soft1 w7 s false U3.out).mono ?_
              rintro e w8 ⟨rfl, hb8⟩
              have hbel8 := bt hbel7 hb8
              clear hb8 hbel7
              go_wp2_with fail
              refine (block1 w8 s false U4.out).mono ?_
              rintro e w9 ⟨rfl, hb9⟩
              have hbel9 := bt hbel8 hb9
              clear hb9 hbel8
              go_wp2_with fail
              refine (gone1 w9 s false U5.out).mono ?_
              rintro e w10 ⟨rfl, hb10⟩
              have hbel10 := bt hbel9 hb10
              clear hb10 hbel9
              go_wp2_with fail
              refine (right1 w10 s false (by omega) U6.out).mono ?_
              rintro e w11 ⟨rfl, rfl⟩
              go_wp2_with fail
              refine (attr1 w10 s false (by omega) U7.out).mono ?_
              rintro e w11 ⟨rfl, rfl⟩
              go_wp2
              go_roundw
              case rel => exact ⟨m + 1, by go_num, by omega, hbel10⟩
              case measure => simp [intOf]; omega
            · go_wp2
              go_roundw
              case rel => exact ⟨m + 1, by go_num, by omega, hbel⟩
              case measure => simp [intOf]; omega
          · go_wp2
            go_roundw
            case rel => exact ⟨m + 1, by go_num, by omega, hbel⟩
            case measure => simp [intOf]; omega
        · have ho5 := ho2.below hbel (Nat.le_refl _)
          go_wp2_with fail
          refine (has1 w5 v2 t n_template true _ ho5 (by omega) HT.out).mono ?_
          rintro e w9 ⟨rfl, rfl⟩
          go_wp2_with fail
          refine (fixed_any w5).mono ?_
          rintro e w6 ⟨rfl, hb6⟩
          go_wp2
          go_ret
          exact ⟨rfl, bt hb2 (bt hbel hb6)⟩

end Go.Proofs.Ytjgnbmebmjecpaa.Na
