/-
  Stage 15 (header): what a header's directives are, what they ask, which names are allowed; and what the laws ask of these.
-/
import Derived.Test.YthgpjhblbpiagaaFoldWds
namespace Go.Proofs.Ythgpjhblbpiagaa.He
set_option linter.unusedSimpArgs false
set_option linter.unusedVariables false
open Go.RowKit Ba Fm Fo

/-- A text cut at each semicolon; cur stands ahead. -/
def pL : List UInt8 → List UInt8 → List (List UInt8)
  | cur, [] => [cur]
  | cur, c :: l => if c = 59 then cur :: pL [] l else pL (cur ++ [c]) l
def pcs (s : ByteArray) : List ByteArray := (pL [] (L s)).map B
theorem pL_end (cur : List UInt8) : pL cur [] = [cur] := rfl
theorem pL_semi {c : UInt8} (cur l : List UInt8) (h : c = 59) : pL cur (c :: l) = cur :: pL [] l := by rw [pL, if_pos h]
theorem pL_no {c : UInt8} (cur l : List UInt8) (h : ¬ c = 59) : pL cur (c :: l) = pL (cur ++ [c]) l := by rw [pL, if_neg h]
theorem pL_form : ∀ l : List UInt8, ∃ h t, ∀ cur, pL cur l = (cur ++ h) :: t
  | [] => ⟨[], [], fun cur => by rw [pL_end, List.append_nil]⟩
  | c :: l => by
    obtain ⟨h, t, e⟩ := pL_form l
    by_cases hc : c = 59
    · exact ⟨[], pL [] l, fun cur => by rw [pL_semi _ _ hc, List.append_nil]⟩
    · exact ⟨c :: h, t, fun cur => by rw [pL_no _ _ hc, e]; simp⟩
theorem pL_joins (b : List UInt8) : ∀ (a cur : List UInt8), pL cur (a ++ 59 :: b) = pL cur a ++ pL [] b
  | [], cur => by rw [List.nil_append, pL_semi _ _ rfl]; rfl
  | c :: a, cur => by
    rw [List.cons_append]
    by_cases hc : c = 59
    · rw [pL_semi _ _ hc, pL_semi _ _ hc, pL_joins b a]; rfl
    · rw [pL_no _ _ hc, pL_no _ _ hc, pL_joins b a]
theorem pL_none : ∀ (a cur : List UInt8), (∀ c ∈ a, ¬ c = 59) → pL cur a = [cur ++ a]
  | [], cur, _ => by rw [pL_end, List.append_nil]
  | c :: a, cur, h => by
    rw [pL_no _ _ (h c (by simp)), pL_none a _ fun x hx => h x (by simp [hx])]
    simp
theorem pL_small : ∀ (l cur : List UInt8) (p : List UInt8), p ∈ pL cur l → p.length ≤ cur.length + l.length
  | [], cur, p, h => by
    rw [pL_end, List.mem_singleton] at h
    subst h
    exact Nat.le_add_right _ _
  | c :: l, cur, p, h => by
    by_cases hc : c = 59
    · rw [pL_semi _ _ hc] at h
      rcases List.mem_cons.1 h with rfl | h
      · exact Nat.le_add_right _ _
      · have := pL_small l [] p h
        simp at this ⊢
        omega
    · rw [pL_no _ _ hc] at h
      have := pL_small l _ p h
      simp at this ⊢
      omega
theorem len_pL : ∀ (l cur : List UInt8), (pL cur l).length ≤ l.length + 1 ∧ 1 ≤ (pL cur l).length
  | [], cur => by rw [pL_end]; simp
  | c :: l, cur => by
    by_cases hc : c = 59
    · rw [pL_semi _ _ hc]
      have := len_pL l []
      simp
      omega
    · rw [pL_no _ _ hc]
      have := len_pL l (cur ++ [c])
      simp
      omega
theorem len_pcs (s : ByteArray) : (pcs s).length ≤ s.size + 1 := by
  unfold pcs
  rw [List.length_map]
  have := (len_pL (L s) []).1
  rw [size_L] at this
  exact this
theorem small_pcs {s p : ByteArray} (h : p ∈ pcs s) : p.size ≤ s.size := by
  unfold pcs at h
  obtain ⟨x, hx, rfl⟩ := List.mem_map.1 h
  have := pL_small _ _ _ hx
  rw [size_L] at this
  rw [size_B]
  simpa using this

/-- A name in small letters. -/
def lo (s : ByteArray) : ByteArray := B (lowL (L s))
theorem lo_lo (s : ByteArray) : lo (lo s) = lo s := by unfold lo; rw [L_B, lowL_lowL]
theorem size_lo (s : ByteArray) : (lo s).size = s.size := by unfold lo; rw [size_B, len_lowL, size_L]
/-- The directive that words are. -/
def dirW : List ByteArray → List ByteArray
  | [] => []
  | n :: v => lo n :: v
def dir (p : ByteArray) : List ByteArray := dirW (wds p)
theorem len_dirW (l : List ByteArray) : (dirW l).length = l.length := by cases l <;> rfl
theorem len_dir (p : ByteArray) : (dir p).length ≤ p.size := by unfold dir; rw [len_dirW]; exact len_wds p
def hd (d : List ByteArray) : ByteArray := d.headD ⟨#[]⟩
def heads (out : List (List ByteArray)) : List ByteArray := out.map hd
/-- One more directive, if it is the first one of its name. -/
def stepD (out : List (List ByteArray)) (d : List ByteArray) : List (List ByteArray) :=
  if d = [] then out else if isIn (hd d) (heads out) then out else out ++ [d]
def parts (s : ByteArray) : List (List ByteArray) := ((pcs s).map dir).foldl stepD []
theorem stepD_nil (out : List (List ByteArray)) : stepD out [] = out := by unfold stepD; rw [if_pos rfl]
theorem stepD_old {out : List (List ByteArray)} {d : List ByteArray} (h : isIn (hd d) (heads out) = true) : stepD out d = out := by
  unfold stepD
  by_cases e : d = []
  · rw [if_pos e]
  · rw [if_neg e, if_pos h]
theorem stepD_new {out : List (List ByteArray)} {d : List ByteArray} (hd0 : d ≠ []) (h : isIn (hd d) (heads out) = false) : stepD out d = out ++ [d] := by
  unfold stepD
  rw [if_neg hd0, if_neg (by rw [h]; simp)]
theorem heads_append (a b : List (List ByteArray)) : heads (a ++ b) = heads a ++ heads b := List.map_append
theorem len_stepD (out : List (List ByteArray)) (d : List ByteArray) : (stepD out d).length ≤ out.length + 1 := by
  unfold stepD
  split
  · omega
  · split
    · omega
    · simp
theorem len_fold : ∀ (ds out : List (List ByteArray)), (ds.foldl stepD out).length ≤ out.length + ds.length
  | [], out => by simp
  | d :: ds, out => by
    rw [List.foldl_cons]
    have h1 := len_fold ds (stepD out d)
    have h2 := len_stepD out d
    simp
    omega
theorem len_parts (s : ByteArray) : (parts s).length ≤ s.size + 1 := by
  have h1 := len_fold ((pcs s).map dir) []
  have h2 := len_pcs s
  unfold parts
  simp at h1
  omega
/-- What holds of all directives that are told. -/
theorem fold_all (P : List ByteArray → Prop) : ∀ (ds out : List (List ByteArray)), (∀ d ∈ out, P d) → (∀ d ∈ ds, d ≠ [] → P d) → ∀ d ∈ ds.foldl stepD out, P d
  | [], out, h, _, d, hd => h d hd
  | x :: ds, out, h, hx, d, hd => by
    rw [List.foldl_cons] at hd
    refine fold_all P ds _ (fun y hy => ?_) (fun y hy => hx y (by simp [hy])) d hd
    unfold stepD at hy
    split at hy
    · exact h y hy
    · rename_i hne
      split at hy
      · exact h y hy
      · rcases List.mem_append.1 hy with hy | hy
        · exact h y hy
        · obtain rfl := List.mem_singleton.1 hy
          exact hx y (by simp) hne
theorem parts_all (P : List ByteArray → Prop) (s : ByteArray) (h : ∀ p ∈ pcs s, dir p ≠ [] → P (dir p)) : ∀ d ∈ parts s, P d := fold_all P _ _ (fun d hd => by cases hd) fun d hd hne => by
  obtain ⟨p, hp, rfl⟩ := List.mem_map.1 hd
  exact h p hp hne
theorem parts_ne (s : ByteArray) : ∀ d ∈ parts s, d ≠ [] := parts_all _ s fun p _ h => h
theorem fold_apart : ∀ (ds out : List (List ByteArray)), (heads out).Nodup → (heads (ds.foldl stepD out)).Nodup
  | [], out, h => h
  | x :: ds, out, h => by
    rw [List.foldl_cons]
    refine fold_apart ds _ ?_
    unfold stepD
    split
    · exact h
    · split
      · exact h
      · rename_i hn
        rw [heads_append]
        refine List.nodup_append.2 ⟨h, by simp [heads], fun a ha b hb e => ?_⟩
        obtain rfl : b = hd x := by simpa [heads] using hb
        subst e
        exact hn (isIn_yes ha)
theorem parts_apart (s : ByteArray) : (heads (parts s)).Nodup := fold_apart _ _ List.nodup_nil

/-! Names. -/
def mark (c : UInt8) : Bool := c == 45 || c == 35 || c == 61 || c == 95 || c == 47 || c == 64 || c == 46 || c == 37
def digit (c : UInt8) : Bool := decide ((48 : Int) ≤ c.toNat) && decide ((c.toNat : Int) ≤ 57)
def okc (c : UInt8) : Bool := mark c || (lr c || digit c)
def mayB (s : ByteArray) : Bool := (L s).all okc && decide (L s ≠ [])
theorem mayB_bad {s : ByteArray} {c : UInt8} (hc : c ∈ L s) (h : okc c = false) : mayB s = false := by
  unfold mayB
  rw [Bool.and_eq_false_iff]
  left
  rw [List.all_eq_false]
  exact ⟨c, hc, by rw [h]; simp⟩
theorem mayB_space (s : ByteArray) : mayB (s ++ ⟨#[32]⟩) = false := mayB_bad (c := 32) (by rw [L_append]; simp) (by decide)

/-- Valid names, each once. -/
def stepN (acc : List ByteArray) (v : ByteArray) : List ByteArray := if mayB v && !isIn v acc then acc ++ [v] else acc
def namesF (acc vs : List ByteArray) : List ByteArray := vs.foldl stepN acc
def namesM (vs : List ByteArray) : List ByteArray := namesF [] vs
theorem stepN_yes {acc : List ByteArray} {v : ByteArray} (h1 : mayB v = true) (h2 : isIn v acc = false) : stepN acc v = acc ++ [v] := by unfold stepN; rw [h1, h2]; rfl
theorem stepN_bad {acc : List ByteArray} {v : ByteArray} (h1 : mayB v = false) : stepN acc v = acc := by unfold stepN; rw [h1]; rfl
theorem stepN_old {acc : List ByteArray} {v : ByteArray} (h1 : isIn v acc = true) : stepN acc v = acc := by unfold stepN; rw [h1]; simp
theorem namesF_snoc {acc vs : List ByteArray} {k : Nat} (h : k < vs.length) : namesF acc (vs.take (k + 1)) = stepN (namesF acc (vs.take k)) vs[k] := by
  unfold namesF
  rw [List.take_succ_eq_append_getElem h, List.foldl_append]
  rfl
theorem len_namesF : ∀ (vs acc : List ByteArray), (namesF acc vs).length ≤ acc.length + vs.length
  | [], acc => by simp [namesF]
  | v :: vs, acc => by
    have h1 := len_namesF vs (stepN acc v)
    have h2 : (stepN acc v).length ≤ acc.length + 1 := by unfold stepN; split <;> simp
    show (namesF (stepN acc v) vs).length ≤ _
    simp
    omega
theorem mem_namesF {z : ByteArray} : ∀ (vs acc : List ByteArray), z ∈ namesF acc vs → z ∈ acc ∨ (z ∈ vs ∧ mayB z = true)
  | [], acc, h => .inl h
  | v :: vs, acc, h => by
    have h' : z ∈ namesF (stepN acc v) vs := h
    rcases mem_namesF vs _ h' with h1 | ⟨h1, h2⟩
    · unfold stepN at h1
      split at h1
      · rename_i hc
        rcases List.mem_append.1 h1 with h1 | h1
        · exact .inl h1
        · obtain rfl := List.mem_singleton.1 h1
          rw [Bool.and_eq_true] at hc
          exact .inr ⟨by simp, hc.1⟩
      · exact .inl h1
    · exact .inr ⟨by simp [h1], h2⟩

/-! Guards. -/
structure Gd where
  on : Bool
  report : Bool
  names : List ByteArray
  any : Bool
  twice : Bool
def kOn : ByteArray := ⟨#[114, 101, 113, 117, 105, 114, 101, 45, 116, 114, 117, 115, 116, 101, 100, 45, 116, 121, 112, 101, 115, 45, 102, 111, 114]⟩
def kNames : ByteArray := ⟨#[116, 114, 117, 115, 116, 101, 100, 45, 116, 121, 112, 101, 115]⟩
def kScript : ByteArray := ⟨#[39, 115, 99, 114, 105, 112, 116, 39]⟩
def kStar : ByteArray := ⟨#[42]⟩
def kDup : ByteArray := ⟨#[39, 97, 108, 108, 111, 119, 45, 100, 117, 112, 108, 105, 99, 97, 116, 101, 115, 39]⟩
def stepG (g : Gd) (d : List ByteArray) : Gd :=
  if hd d = kOn then { g with on := isIn kScript d.tail }
  else if hd d = kNames then { g with any := isIn kStar d.tail, twice := isIn kDup d.tail, names := namesM d.tail }
  else g
def stepR (g : Gd) (d : List ByteArray) : Gd :=
  if hd d = kOn then { g with on := isIn kScript d.tail }
  else if hd d = kNames then { g with any := isIn kStar d.tail, twice := isIn kDup d.tail, names := namesF g.names d.tail }
  else g
def start (r : Bool) : Gd := ⟨false, r, [], true, true⟩
def guardD (ds : List (List ByteArray)) (r : Bool) : Gd := ds.foldl stepG (start r)
def parseM (s : ByteArray) (r : Bool) : Gd := guardD (parts s) r
theorem kOn_ne : kOn ≠ kNames := by decide
/-- Of the names each one's values count once. -/
theorem both : ∀ (ds : List (List ByteArray)) (g : Gd), (heads ds).Nodup → (g.names = [] ∨ kNames ∉ heads ds) → ds.foldl stepR g = ds.foldl stepG g
  | [], g, _, _ => rfl
  | d :: ds, g, hn, hg => by
    have hn' : (hd d :: heads ds).Nodup := hn
    obtain ⟨h1, h2⟩ := List.nodup_cons.1 hn'
    have hg' : g.names = [] ∨ ¬ hd d = kNames := hg.imp id fun h e => h (by show kNames ∈ hd d :: heads ds; rw [e]; simp)
    have e : stepR g d = stepG g d := by
      unfold stepR stepG
      split
      · rfl
      · split
        · rename_i hk
          rcases hg' with h | h
          · rw [h]; rfl
          · exact absurd hk h
        · rfl
    rw [List.foldl_cons, List.foldl_cons, e]
    refine both ds _ h2 ?_
    by_cases hk : hd d = kNames
    · right
      rw [← hk]
      exact h1
    · rcases hg with h | h
      · left
        unfold stepG
        split
        · exact h
        · first | exact h | (rw [if_neg hk]; exact h)
      · right
        exact fun hm => h (by show kNames ∈ hd d :: heads ds; simp [hm])
theorem parseR (s : ByteArray) (r : Bool) : (parts s).foldl stepR (start r) = parseM s r := both _ _ (parts_apart s) (.inl rfl)

/-- Names that are told are valid. -/
theorem names_valid : ∀ (ds : List (List ByteArray)) (g : Gd), (∀ z ∈ g.names, mayB z = true) → ∀ z ∈ (ds.foldl stepG g).names, mayB z = true
  | [], g, h, z, hz => h z hz
  | d :: ds, g, h, z, hz => by
    rw [List.foldl_cons] at hz
    refine names_valid ds _ (fun y hy => ?_) z hz
    unfold stepG at hy
    split at hy
    · exact h y hy
    · split at hy
      · rcases mem_namesF _ _ hy with hy | hy
        · cases hy
        · exact hy.2
      · exact h y hy
theorem parse_valid (s : ByteArray) (r : Bool) : ∀ z ∈ (parseM s r).names, mayB z = true := names_valid _ _ fun z hz => by cases hz

def allowB (g : Gd) (n : ByteArray) (had : Int) : Bool := mayB n && (g.any || isIn n g.names) && (decide (had ≤ 0) || g.twice)

/-! Words. -/
def ns (l : List UInt8) : Prop := ∀ c ∈ l, sp c = false
theorem wL_one : ∀ (l cur : List UInt8), ns l → cur ++ l ≠ [] → wL cur l = [cur ++ l]
  | [], cur, _, h => by rw [List.append_nil] at h ⊢; exact wL_endp h
  | c :: l, cur, hl, h => by
    rw [wL_no _ _ (hl c (by simp)), wL_one l (cur ++ [c]) (fun x hx => hl x (by simp [hx])) (by simp)]
    simp
theorem wL_good : ∀ (l cur : List UInt8), ns cur → ∀ x ∈ wL cur l, x ≠ [] ∧ ns x
  | [], cur, hc, x, hx => by
    rw [wL_end] at hx
    split at hx
    · cases hx
    · obtain rfl := List.mem_singleton.1 hx
      exact ⟨by assumption, hc⟩
  | c :: l, cur, hc, x, hx => by
    cases hs : sp c with
    | false =>
      rw [wL_no _ _ hs] at hx
      refine wL_good l _ (fun y hy => ?_) x hx
      rcases List.mem_append.1 hy with hy | hy
      · exact hc y hy
      · rw [List.mem_singleton.1 hy]; exact hs
    | true =>
      by_cases h0 : cur = []
      · subst h0
        rw [wL_sp0 _ hs] at hx
        exact wL_good l [] (fun y hy => by cases hy) x hx
      · rw [wL_sp _ hs h0] at hx
        rcases List.mem_cons.1 hx with rfl | hx
        · exact ⟨h0, hc⟩
        · exact wL_good l [] (fun y hy => by cases hy) x hx
theorem sp_low (c : UInt8) : sp (low c) = sp c := by
  unfold low
  split
  · rename_i h
    have h1 := UInt8.le_iff_toNat_le.1 h.1
    have h2 := UInt8.le_iff_toNat_le.1 h.2
    have e65 : (65 : UInt8).toNat = 65 := rfl
    have e90 : (90 : UInt8).toNat = 90 := rfl
    have e32 : (32 : UInt8).toNat = 32 := rfl
    have e1 : (c + 32).toNat = c.toNat + 32 := by rw [UInt8.toNat_add]; omega
    have f : ∀ k : UInt8, k.toNat ≤ 32 → (c + 32 == k) = false ∧ (c == k) = false := fun k hk => by
      constructor
      · rw [beq_eq_false_iff_ne]; rintro rfl; omega
      · rw [beq_eq_false_iff_ne]; rintro rfl; omega
    unfold sp
    rw [(f 32 (by decide)).1, (f 9 (by decide)).1, (f 10 (by decide)).1, (f 12 (by decide)).1, (f 13 (by decide)).1, (f 32 (by decide)).2, (f 9 (by decide)).2, (f 10 (by decide)).2, (f 12 (by decide)).2, (f 13 (by decide)).2]
  · rfl
theorem ns_low {l : List UInt8} (h : ns l) : ns (lowL l) := fun c hc => by
  obtain ⟨x, hx, rfl⟩ := List.mem_map.1 hc
  rw [sp_low]
  exact h x hx
/-- A word: not empty, no space in it. -/
def isW (s : ByteArray) : Prop := L s ≠ [] ∧ ns (L s)
theorem word_one {s : ByteArray} (h : isW s) : wds s = [s] := by
  unfold wds
  rw [wL_one _ [] h.2 (by simpa using h.1)]
  simp [B_L]
theorem word_of {s p : ByteArray} (h : s ∈ wds p) : isW s := by
  unfold wds at h
  obtain ⟨x, hx, rfl⟩ := List.mem_map.1 h
  unfold isW
  rw [L_B]
  exact wL_good _ [] (fun y hy => by cases hy) x hx
theorem word_lo {s : ByteArray} (h : isW s) : isW (lo s) := by
  unfold isW lo
  rw [L_B]
  refine ⟨fun e => h.1 ?_, ns_low h.2⟩
  have := congrArg List.length e
  rw [len_lowL] at this
  exact List.eq_nil_of_length_eq_zero this
theorem word_dir {s p : ByteArray} (h : s ∈ dir p) : isW s := by
  unfold dir dirW at h
  split at h
  · cases h
  · rename_i n v e
    rcases List.mem_cons.1 h with rfl | h
    · exact word_lo (word_of (p := p) (by rw [e]; simp))
    · exact word_of (p := p) (by rw [e]; simp [h])
theorem parts_words (s : ByteArray) : ∀ d ∈ parts s, d ≠ [] ∧ lo (hd d) = hd d ∧ ∀ x ∈ d, isW x ∧ wds x = [x] := parts_all _ s fun p _ hne => by
  refine ⟨hne, ?_, fun x hx => ⟨word_dir hx, word_one (word_dir hx)⟩⟩
  unfold dir dirW at hne ⊢
  split
  · rename_i e
    simp [e] at hne
  · exact lo_lo _

end Go.Proofs.Ythgpjhblbpiagaa.He
