/-
  Tokens, in plain lists of bytes.
-/
import Derived.Test.YtkbfbcfgjgpfgaaDoorParsP
namespace Go.Proofs.YtkbfbcfgjgpfgaaDoor

/-- A letter. -/
def isLt (c : UInt8) : Bool := decide (65 ≤ c.toNat ∧ c.toNat ≤ 90) || decide (97 ≤ c.toNat ∧ c.toNat ≤ 122) || decide (c.toNat = 95)

/-- A letter or a digit. -/
def isWd (c : UInt8) : Bool := isLt c || isDg c

theorem isLt_iff {c : UInt8} : isLt c = true ↔ (65 ≤ c.toNat ∧ c.toNat ≤ 90) ∨ (97 ≤ c.toNat ∧ c.toNat ≤ 122) ∨ c.toNat = 95 := by simp [isLt, or_assoc]

theorem lt_not_dg {c : UInt8} (h : isLt c = true) : isDg c = false := by
  cases e : isDg c with
  | false => rfl
  | true =>
    have h1 := isLt_iff.1 h
    have h2 := isDg_iff.1 e
    omega

/-- How many letters and digits a text begins with. -/
def wdK : List UInt8 → Nat
  | [] => 0
  | c :: r => if isWd c = true then wdK r + 1 else 0

theorem wdK_le : ∀ l : List UInt8, wdK l ≤ l.length
  | [] => Nat.le_refl _
  | c :: r => by
    have := wdK_le r
    unfold wdK
    split <;> simp <;> omega

theorem wdK_yes : ∀ (l : List UInt8) (k : Nat) (hk : k < l.length), k ≤ wdK l → isWd l[k] = true → k + 1 ≤ wdK l
  | c :: r, 0, _, _, hd => by
    have hd : isWd c = true := hd
    unfold wdK
    rw [if_pos hd]
    omega
  | c :: r, k + 1, hk, h, hd => by
    unfold wdK at h ⊢
    split at h
    · rw [if_pos (by assumption)]
      have := wdK_yes r k (by simpa using hk) (by omega) (by simpa using hd)
      omega
    · omega

theorem wdK_no : ∀ (l : List UInt8) (k : Nat) (hk : k < l.length), k ≤ wdK l → isWd l[k] = false → k = wdK l
  | c :: r, 0, _, _, hd => by
    have hd : isWd c = false := hd
    unfold wdK
    rw [hd, if_neg (by decide)]
  | c :: r, k + 1, hk, h, hd => by
    unfold wdK at h ⊢
    split at h
    · rw [if_pos (by assumption)]
      have := wdK_no r k (by simpa using hk) (by omega) (by simpa using hd)
      omega
    · omega

theorem dgK_le_wdK : ∀ l : List UInt8, dgK l ≤ wdK l
  | [] => Nat.le_refl _
  | c :: r => by
    have := dgK_le_wdK r
    unfold dgK wdK
    by_cases h : isDg c = true
    · rw [if_pos h, if_pos (by simp [isWd, h])]; omega
    · rw [if_neg h]; omega

theorem wdK_pos {c : UInt8} {r : List UInt8} (h : isWd c = true) : 0 < wdK (c :: r) := by unfold wdK; rw [if_pos h]; omega

theorem dgK_pos {c : UInt8} {r : List UInt8} (h : isDg c = true) : 0 < dgK (c :: r) := by unfold dgK; rw [if_pos h]; omega

/-- The letters and digits at the front, where the first one is a letter. -/
def wsz : List UInt8 → Nat
  | [] => 0
  | c :: r => if isLt c = true then wdK (c :: r) else 0

theorem wsz_cons (c : UInt8) (r : List UInt8) : wsz (c :: r) = if isLt c = true then wdK (c :: r) else 0 := rfl

theorem wsz_le (l : List UInt8) : wsz l ≤ l.length := by
  cases l with
  | nil => exact Nat.le_refl _
  | cons c r =>
    rw [wsz_cons]
    split
    · exact wdK_le _
    · exact Nat.zero_le _

theorem wsz_yes {l : List UInt8} {k : Nat} (hk : k < l.length) (h : k ≤ wsz l) (hd : isLt l[k] = true ∨ (0 < k ∧ isDg l[k] = true)) : k + 1 ≤ wsz l := by
  cases l with
  | nil => simp at hk
  | cons c r =>
    rw [wsz_cons] at h ⊢
    by_cases hc : isLt c = true
    · rw [if_pos hc] at h ⊢
      refine wdK_yes _ k hk h ?_
      rcases hd with hd | hd
      · simp [isWd, hd]
      · simp [isWd, hd.2]
    · rw [if_neg hc] at h
      obtain rfl : k = 0 := by omega
      rcases hd with hd | hd
      · exact absurd hd hc
      · omega

theorem wsz_no {l : List UInt8} {k : Nat} (hk : k < l.length) (h : k ≤ wsz l) (h1 : isLt l[k] = false) (h2 : k = 0 ∨ isDg l[k] = false) : k = wsz l := by
  cases l with
  | nil => simp at hk
  | cons c r =>
    rw [wsz_cons] at h ⊢
    by_cases hc : isLt c = true
    · rw [if_pos hc] at h ⊢
      rcases h2 with rfl | h2
      · have h1 : isLt c = false := h1
        rw [h1] at hc; cases hc
      · exact wdK_no _ k hk h (by simp [isWd, h1, h2])
    · rw [if_neg hc] at h ⊢
      omega

/-- The keywords. -/
def kws : List (List UInt8) := [[97, 102, 116, 101, 114], [97, 108, 119, 97, 121, 115], [99, 104, 97, 114, 116], [100, 101, 101, 112], [101, 109, 105, 116], [101, 110, 116, 101, 114], [104, 105, 115, 116, 111, 114, 121], [105, 110], [105, 110, 105, 116, 105, 97, 108], [108, 101, 97, 118, 101], [111, 110], [112, 97, 114, 97, 108, 108, 101, 108], [114, 97, 105, 115, 101], [115, 101, 116], [115, 116, 97, 116, 101], [118, 97, 114]]

def isKw (l : List UInt8) : Bool := kws.contains l

/-- The keywords, as values. -/
def kwVals : List Value := kws.map fun k => Value.string ⟨k.toArray⟩

theorem kw_yes {l k : List UInt8} (i : Nat) (h : kws[i]? = some k) (e : k = l) : isKw l = true := by
  subst e
  simpa [isKw] using List.mem_of_getElem? h

theorem kw_no {l : List UInt8} (h : ∀ (i : Nat) (k : List UInt8), kws[i]? = some k → k ≠ l) : isKw l = false := by
  cases e : isKw l with
  | false => rfl
  | true =>
    have : l ∈ kws := by simpa [isKw] using e
    obtain ⟨i, hi⟩ := List.getElem?_of_mem this
    exact absurd rfl (h i l hi)

/-- Signs of two bytes. -/
def twoS : List (List UInt8) := [[45, 62], [60, 61], [62, 61], [61, 61], [33, 61], [38, 38], [124, 124]]

/-- Signs of one byte. -/
def oneS : List UInt8 := [123, 125, 40, 41, 91, 93, 59, 44, 61, 43, 45, 42, 47, 37, 60, 62, 33]

/-- How long the sign at the front is. -/
def sgn (l : List UInt8) : Nat := if (twoS.contains (l.take 2)) = true then 2 else match l with
  | [] => 0
  | c :: _ => if oneS.contains c = true then 1 else 0

theorem two_len {l : List UInt8} (h : twoS.contains (l.take 2) = true) : 2 ≤ l.length := by
  match l with
  | [] => exact absurd h (by decide)
  | [a] =>
    have : [a] ∈ twoS := by simpa using h
    simp [twoS] at this
  | a :: b :: r => simp

theorem sgn_le (l : List UInt8) : sgn l ≤ l.length := by
  unfold sgn
  split
  · rename_i h; exact two_len h
  · split
    · omega
    · split <;> simp

/-- A blank byte. -/
def isBl (c : UInt8) : Bool := decide (c = 9) || decide (c = 10) || decide (c = 13) || decide (c = 32)

/-- How many bytes stand ahead of the first byte 10. -/
def lnK : List UInt8 → Nat
  | [] => 0
  | c :: r => if c = 10 then 0 else lnK r + 1

theorem lnK_le : ∀ l : List UInt8, lnK l ≤ l.length
  | [] => Nat.le_refl _
  | c :: r => by
    have := lnK_le r
    unfold lnK
    split <;> simp <;> omega

/-- How many blanks a text begins with; in a note or not. -/
def blK : Bool → List UInt8 → Nat
  | _, [] => 0
  | true, c :: r => if c = 10 then blK false r + 1 else blK true r + 1
  | false, c :: r => if c = 47 ∧ r.head? = some 47 then blK true r + 1 else if isBl c = true then blK false r + 1 else 0

theorem blK_le : ∀ (b : Bool) (l : List UInt8), blK b l ≤ l.length
  | true, [] => Nat.le_refl _
  | false, [] => Nat.le_refl _
  | true, c :: r => by
    have h1 := blK_le true r
    have h2 := blK_le false r
    unfold blK
    split <;> simp <;> omega
  | false, c :: r => by
    have h1 := blK_le true r
    have h2 := blK_le false r
    unfold blK
    split
    · simp; omega
    · split <;> simp <;> omega

/-- In a note: up to the line's end, and on. -/
theorem blK_note : ∀ l : List UInt8, blK true l = lnK l + blK false (l.drop (lnK l))
  | [] => rfl
  | c :: r => by
    unfold lnK
    by_cases h : c = 10
    · subst h
      rw [if_pos rfl, List.drop_zero]
      simp [blK, isBl]
    · rw [if_neg h, List.drop_succ_cons]
      have := blK_note r
      simp only [blK, if_neg h, this]
      omega

theorem isBl_ne {c : UInt8} (h : isBl c = true) : ¬ c = 47 := by
  rintro rfl
  exact absurd h (by decide)

/-- Where no blank begins. -/
theorem blK_zero {l : List UInt8} (h : blK false l = 0) : l = [] ∨ ∃ c r, l = c :: r ∧ ¬ (c = 47 ∧ r.head? = some 47) ∧ isBl c = false := by
  cases l with
  | nil => exact .inl rfl
  | cons c r =>
    refine .inr ⟨c, r, rfl, ?_⟩
    unfold blK at h
    split at h
    · omega
    · rename_i h1
      split at h
      · omega
      · rename_i h2
        exact ⟨h1, by simpa using h2⟩

/-- Behind the blanks there is none. -/
theorem blK_rest : ∀ (b : Bool) (l : List UInt8), blK false (l.drop (blK b l)) = 0
  | true, [] => rfl
  | false, [] => rfl
  | true, c :: r => by
    have h1 := blK_rest true r
    have h2 := blK_rest false r
    by_cases hc : c = 10
    · have e : blK true (c :: r) = blK false r + 1 := by simp only [blK, if_pos hc]
      rw [e]
      simpa using h2
    · have e : blK true (c :: r) = blK true r + 1 := by simp only [blK, if_neg hc]
      rw [e]
      simpa using h1
  | false, c :: r => by
    have h1 := blK_rest true r
    have h2 := blK_rest false r
    by_cases hc : c = 47 ∧ r.head? = some 47
    · have e : blK false (c :: r) = blK true r + 1 := by simp only [blK, if_pos hc]
      rw [e]
      simpa using h1
    · by_cases hb : isBl c = true
      · have e : blK false (c :: r) = blK false r + 1 := by simp only [blK, if_neg hc, if_pos hb]
        rw [e]
        simpa using h2
      · have e : blK false (c :: r) = 0 := by simp only [blK, if_neg hc, if_neg hb]
        rw [e]
        exact e

/-- What is wrong with the token at the front. -/
def tkE : List UInt8 → Int
  | [] => 0
  | c :: r =>
    if isLt c = true then (if 24 < wdK (c :: r) then 2 else 0)
    else if isDg c = true then (if pE (c :: r) = 0 then (if dgK (c :: r) < wdK (c :: r) then 4 else 0) else pE (c :: r))
    else if sgn (c :: r) = 0 then 4 else 0

/-- How long it is. -/
def tkS : List UInt8 → Nat
  | [] => 0
  | c :: r => if isLt c = true then wdK (c :: r) else if isDg c = true then dgK (c :: r) else sgn (c :: r)

structure Tk where
  kind : Int
  text : List UInt8
  num : Int
  at_ : Int
deriving DecidableEq

/-- The token at the front. -/
def tkT (l : List UInt8) (p : Int) : Tk :=
  match l with
  | [] => ⟨5, [], 0, p⟩
  | c :: r => if isLt c = true then ⟨if isKw ((c :: r).take (wdK (c :: r))) = true then 2 else 1, (c :: r).take (wdK (c :: r)), 0, p⟩
    else if isDg c = true then ⟨3, [], pV (c :: r), p⟩ else ⟨4, (c :: r).take (sgn (c :: r)), 0, p⟩

theorem tkE_cons (c : UInt8) (r : List UInt8) : tkE (c :: r) =
    if isLt c = true then (if 24 < wdK (c :: r) then 2 else 0)
    else if isDg c = true then (if pE (c :: r) = 0 then (if dgK (c :: r) < wdK (c :: r) then 4 else 0) else pE (c :: r))
    else if sgn (c :: r) = 0 then 4 else 0 := rfl

theorem tkS_cons (c : UInt8) (r : List UInt8) : tkS (c :: r) = if isLt c = true then wdK (c :: r) else if isDg c = true then dgK (c :: r) else sgn (c :: r) := rfl

theorem tkT_cons (c : UInt8) (r : List UInt8) (p : Int) : tkT (c :: r) p =
    if isLt c = true then ⟨if isKw ((c :: r).take (wdK (c :: r))) = true then 2 else 1, (c :: r).take (wdK (c :: r)), 0, p⟩
    else if isDg c = true then ⟨3, [], pV (c :: r), p⟩ else ⟨4, (c :: r).take (sgn (c :: r)), 0, p⟩ := rfl

theorem tkS_le (l : List UInt8) : tkS l ≤ l.length := by
  cases l with
  | nil => exact Nat.le_refl _
  | cons c r =>
    rw [tkS_cons]
    split
    · exact wdK_le _
    · split
      · exact dgK_le _
      · exact sgn_le _

theorem tkS_pos {c : UInt8} {r : List UInt8} (h : tkE (c :: r) = 0) : 0 < tkS (c :: r) := by
  rw [tkE_cons] at h
  rw [tkS_cons]
  by_cases h1 : isLt c = true
  · rw [if_pos h1]
    exact wdK_pos (by simp [isWd, h1])
  · rw [if_neg h1] at h ⊢
    by_cases h2 : isDg c = true
    · rw [if_pos h2]
      exact dgK_pos h2
    · rw [if_neg h2] at h ⊢
      split at h
      · cases h
      · omega

/-- The tokens, from a place on, behind those that were found; what is wrong, and where. -/
def scA : Nat → Nat → List Tk → List UInt8 → List Tk × Int × Int
  | 0, _, _, _ => ([], 0, 0)
  | f + 1, p, acc, l =>
    let m := l.drop (blK false l)
    let q := p + blK false l
    if m = [] then (acc ++ [tkT m q], 0, 0)
    else if tkE m = 0 then scA f (q + tkS m) (acc ++ [tkT m q]) (m.drop (tkS m))
    else ([], tkE m, q)

/-- The answer for a source. -/
def scF (l : List UInt8) : List Tk × Int × Int := if 16384 < l.length then ([], 2, -1) else scA (l.length + 1) 0 [] l

theorem scA_end {f p : Nat} {acc : List Tk} {l : List UInt8} (h : l.drop (blK false l) = []) : scA (f + 1) p acc l = (acc ++ [⟨5, [], 0, ((p + blK false l : Nat) : Int)⟩], 0, 0) := by
  unfold scA
  simp only [h, if_true]
  rfl

theorem scA_bad {f p : Nat} {acc : List Tk} {l m : List UInt8} (hm : l.drop (blK false l) = m) (h0 : m ≠ []) (h : tkE m ≠ 0) : scA (f + 1) p acc l = ([], tkE m, ((p + blK false l : Nat) : Int)) := by
  subst hm
  unfold scA
  simp only [if_neg h0, if_neg h]

theorem scA_step {f p : Nat} {acc : List Tk} {l m : List UInt8} (hm : l.drop (blK false l) = m) (h0 : m ≠ []) (h : tkE m = 0) :
    scA (f + 1) p acc l = scA f (p + blK false l + tkS m) (acc ++ [tkT m ((p + blK false l : Nat) : Int)]) (m.drop (tkS m)) := by
  subst hm
  rw [scA]
  simp only [if_neg h0, if_pos h]

end Go.Proofs.YtkbfbcfgjgpfgaaDoor
