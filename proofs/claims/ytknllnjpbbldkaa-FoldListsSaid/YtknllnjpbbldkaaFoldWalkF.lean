/-
  Walks of stage 2: fold.Find, of a list that rises: how many names are less, and whether the name is there.
-/
import Derived.Test.YtknllnjpbbldkaaFoldWalkE
namespace Go.Proofs.Ytknllnjpbbldkaa.Fo
open Go.RowKit Ba Fm

set_option maxHeartbeats 400000 in
theorem less_any (p q b off n c m : Nat) (x s : ByteArray) (w : World) (hm : m < n) (hn : n ≤ 8796093022208)
    (h1 : w.cell? ⟨p, 0, none⟩ = some (.slice (some ⟨b, off, none⟩) n c)) (h2 : w.cell? ⟨q, 0, none⟩ = some (.string s)) (h3 : w.cell? ⟨b, off + m, none⟩ = some (.string x)) :
    Calls Try.prog 33 #[.int .i64 m, .pointer (some ⟨p, 0, none⟩), .pointer (some ⟨q, 0, none⟩)] w fun e w' => e = .returned (.bool (lt x s)) ∧ Below w.heap.size w w' := by
  have hk0 : (0 : Int) ≤ (m : Int) := by omega
  have hk1 : (m : Int) < (n : Int) := by omega
  go_enter Try.func33, Try.ntmps33
  go_wp2
  go_quiet (fail)
  go_wp2
  go_ret
  exact ⟨rfl, below_dN (Below.refl _ _) _⟩

/-- What the search knows: all ahead of 'lo' are less, none from 'hi' on is. -/
def Kn (l : List ByteArray) (s : ByteArray) (lo hi : Nat) : Prop :=
  (∀ i, (h : i < l.length) → i < lo → lt l[i] s = true) ∧ (∀ i, (h : i < l.length) → hi ≤ i → lt l[i] s = false)

theorem Kn.end_ {l : List ByteArray} {s : ByteArray} {k : Nat} (h : Kn l s k k) (hk : k ≤ l.length) : below lt l s = k :=
  below_of hk (fun i hi => h.1 i (by omega) hi) fun i hki hi => h.2 i hi hki
theorem Kn.found {l : List ByteArray} {s : ByteArray} {k : Nat} (h : Kn l s k k) (ha : Asc lt l) (hk : k < l.length) : decide (l[k] = s) = isIn s l := by
  have := found_of ord_lt (fun i hi hik => h.1 i hi hik) ha hk (h.2 k hk (Nat.le_refl _))
  by_cases e : l[k] = s
  · rw [decide_eq_true e, isIn_yes (this.1 e)]
  · rw [decide_eq_false e, isIn_no fun q => e (this.2 q)]
theorem Kn.none_ {l : List ByteArray} {s : ByteArray} {k : Nat} (h : Kn l s k k) (hk : ¬ k < l.length) : isIn s l = false :=
  isIn_no (notfound_of ord_lt fun i hi => h.1 i hi (by omega))

def fw (w : World) (A : Option Addr) (n c : Nat) (s : ByteArray) : World := (w.alloc (.cells #[.slice A n c] 27)).alloc (.cells #[.string s] 9)

set_option maxHeartbeats 1000000 in
theorem find_any (A : Option Addr) (c : Nat) (l : List ByteArray) (s : ByteArray) (w : World) (hr : Rd w w.heap.size A l) (hl : l.length ≤ 8796093022208) (ha : Asc lt l) :
    Calls Try.prog 27 #[.slice A l.length c, .string s] w fun e w' => e = .returned (.tuple #[.int .i64 (below lt l s), .bool (isIn s l)]) ∧ Below w.heap.size w w' := by
  have hmf : ∀ (fn : Fn) (first cap : Array Value) (w : World), (Instr.makeFunc fn first cap).run Try.prog w = .ok (.func fn first cap) w := fun _ _ _ _ => rfl
  obtain ⟨w0, hw0⟩ : ∃ w0, (w.alloc (.cells #[.slice A l.length c] 27)).alloc (.cells #[.string s] 9) = w0 := ⟨_, rfl⟩
  have hz : w0.heap.size = w.heap.size + 2 := by rw [← hw0]; simp
  have hb0 : Below w.heap.size w w0 := by rw [← hw0]; exact ((Below.refl _ _).alloc (Nat.le_refl _) _).alloc (by simp) _
  have hc1 : w0.cell? ⟨w.heap.size, 0, none⟩ = some (.slice A l.length c) := by
    rw [← hw0, World.cell?_alloc_past _ _ _ (by simp), World.cell?_alloc_at _ _ _ _ rfl]; rfl
  have hc2 : w0.cell? ⟨w.heap.size + 1, 0, none⟩ = some (.string s) := by
    rw [← hw0, World.cell?_alloc_at _ _ _ _ (by simp)]; rfl
  have HW := Lib.hid hw0; clear hw0
  have HZ := Lib.hid hz; clear hz
  go_enter Try.func27, Try.ntmps27
  go_wp2
  rw [HW.out]
  go_quiet (fail)
  go_wp2
  clear hmf
  generalize hw1 : w0.drewN nq = w1
  have hb1 : Below w0.heap.size w0 w1 := by rw [← hw1]; exact below_dN (Below.refl _ _) _
  clear hw1
  go_loopw [7, 8, 9] (fun lo hi _ wr => ∃ i j : Nat, lo = .int .i64 i ∧ hi = .int .i64 j ∧ i ≤ j ∧ j ≤ l.length ∧ Kn l s i j ∧ Below w0.heap.size w0 wr) (fun lo hi _ _ => (intOf hi).toNat - (intOf lo).toNat)
  case atStart => exact ⟨0, l.length, rfl, rfl, Nat.zero_le _, Nat.le_refl _, ⟨fun i _ h => absurd h (by omega), fun i h h' => absurd h (by omega)⟩, hb1⟩
  case round =>
    obtain ⟨i, j, rfl, rfl, hij, hjl, hkn, hbel⟩ := hrel
    have HK := Lib.hid hkn; clear hkn
    have g1 : wr.cell? ⟨w.heap.size, 0, none⟩ = some (.slice A l.length c) := (hbel.cell (p := ⟨w.heap.size, 0, none⟩) (by have := HZ.out; simp; omega)).trans hc1
    have g2 : wr.cell? ⟨w.heap.size + 1, 0, none⟩ = some (.string s) := (hbel.cell (p := ⟨w.heap.size + 1, 0, none⟩) (by have := HZ.out; simp; omega)).trans hc2
    clear hc1 hc2 hb1
    by_cases hlt : i < j
    · obtain ⟨b, off, rfl, hb2, hc⟩ := hr (by omega)
      have hmid : i + (j - i) / 2 < l.length := by omega
      have g3 : wr.cell? ⟨b, off + (i + (j - i) / 2), none⟩ = some (.string l[i + (j - i) / 2]) := (hbel.cell (p := ⟨b, off + (i + (j - i) / 2), none⟩) (by have := HZ.out; simp; omega)).trans ((hb0.cell (p := ⟨b, off + (i + (j - i) / 2), none⟩) hb2).trans (hc _ hmid))
      have hup : lt l[i + (j - i) / 2] s = true → Kn l s (i + (j - i) / 2 + 1) j := fun h => ⟨fun x hx hxl => low_of ord_lt ha hmid h (by omega), HK.out.2⟩
      have hdn : lt l[i + (j - i) / 2] s = false → Kn l s i (i + (j - i) / 2) := fun h => ⟨HK.out.1, fun x hx hxl => high_of ord_lt ha hmid h hxl hx⟩
      have HU := Lib.hid hup; have HD := Lib.hid hdn; clear hup hdn hc hr hb2
      obtain ⟨m, hm⟩ : ∃ m, i + (j - i) / 2 = m := ⟨_, rfl⟩
      have HM := Lib.hid hm
      have hmi : (i : Int) + ((j : Int) - i) / 2 = (m : Int) := by omega
      have hmj : i ≤ m ∧ m < j := by omega
      obtain ⟨hmi1, hmj1⟩ := hmj
      clear hm
      simp only [HM.out] at hmid g3 HU HD
      have HMI := Lib.hid hmi; clear hmi
      cases hq : lt l[m] s with
      | true =>
        have HQ := Lib.hid hq; clear hq
        go_wp2_with fail
        rw [HMI.out]
        refine (less_any w.heap.size (w.heap.size + 1) b off l.length c m l[m] s _ hmid hl g1 g2 g3).mono ?_
        rw [HQ.out]
        rintro e w2 ⟨rfl, hb3⟩
        go_wp2
        go_roundw
        case rel => exact ⟨m + 1, j, by go_num, rfl, by omega, hjl, HU.out HQ.out, hbel.trans (hb3.mono hbel.size)⟩
        case measure => simp [intOf]; omega
      | false =>
        have HQ := Lib.hid hq; clear hq
        go_wp2_with fail
        rw [HMI.out]
        refine (less_any w.heap.size (w.heap.size + 1) b off l.length c m l[m] s _ hmid hl g1 g2 g3).mono ?_
        rw [HQ.out]
        rintro e w2 ⟨rfl, hb3⟩
        go_wp2
        go_roundw
        case rel => exact ⟨i, m, rfl, by go_num, by omega, by omega, HD.out HQ.out, hbel.trans (hb3.mono hbel.size)⟩
        case measure => simp [intOf]; omega
    · obtain rfl : i = j := by omega
      have hfin : below lt l s = i := HK.out.end_ hjl
      have HF := Lib.hid hfin; clear hfin hij hlt
      by_cases hp : i < l.length
      · obtain ⟨b, off, rfl, hb2, hc⟩ := hr (by omega)
        have g3 : wr.cell? ⟨b, off + i, none⟩ = some (.string l[i]) := (hbel.cell (p := ⟨b, off + i, none⟩) (by have := HZ.out; simp; omega)).trans ((hb0.cell (p := ⟨b, off + i, none⟩) hb2).trans (hc _ hp))
        have hfd := HK.out.found ha hp
        have HFD := Lib.hid hfd; clear hfd hc hr
        have hk0 : (0 : Int) ≤ (i : Int) := by omega
        have hk1 : (i : Int) < (l.length : Int) := by omega
        have hk2 : decide (i < l.length) = true := decide_eq_true hp
        go_wp2
        go_quiet (fail)
        go_wp2
        go_ret2
        refine ⟨?_, hb0.trans ((below_dN hbel _).mono hb0.size)⟩
        rw [HF.out, ← HFD.out, eq_of_toList]
        rfl
      · have hfd := HK.out.none_ hp
        have HFD := Lib.hid hfd; clear hfd
        have hk1 : decide (i < l.length) = false := decide_eq_false hp
        go_wp2
        go_quiet (fail)
        go_wp2
        go_ret2
        refine ⟨?_, hb0.trans ((below_dN hbel _).mono hb0.size)⟩
        rw [HF.out, HFD.out]
        rfl

end Go.Proofs.Ytknllnjpbbldkaa.Fo
