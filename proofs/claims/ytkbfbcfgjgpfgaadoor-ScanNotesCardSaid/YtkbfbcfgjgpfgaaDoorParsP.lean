/-
  A numeral's digits and value, in plain words of lists.
-/
import Derived.Lib.AtoiAll
import Derived.Lib.ItoaNum
namespace Go.Proofs.YtkbfbcfgjgpfgaaDoor

/-- A digit. -/
def isDg (c : UInt8) : Bool := decide (48 ≤ c.toNat) && decide (c.toNat ≤ 57)

theorem isDg_iff {c : UInt8} : isDg c = true ↔ 48 ≤ c.toNat ∧ c.toNat ≤ 57 := by simp [isDg]

/-- How many digits a text begins with. -/
def dgK : List UInt8 → Nat
  | [] => 0
  | c :: r => if isDg c = true then dgK r + 1 else 0

theorem dgK_le : ∀ l : List UInt8, dgK l ≤ l.length
  | [] => Nat.le_refl _
  | c :: r => by
    have := dgK_le r
    unfold dgK
    split <;> simp <;> omega

theorem dgK_yes : ∀ (l : List UInt8) (k : Nat) (hk : k < l.length), k ≤ dgK l → isDg l[k] = true → k + 1 ≤ dgK l
  | c :: r, 0, _, _, hd => by
    have hd : isDg c = true := hd
    unfold dgK
    rw [if_pos hd]
    omega
  | c :: r, k + 1, hk, h, hd => by
    unfold dgK at h ⊢
    split at h
    · rw [if_pos (by assumption)]
      have := dgK_yes r k (by simpa using hk) (by omega) (by simpa using hd)
      omega
    · omega

theorem dgK_no : ∀ (l : List UInt8) (k : Nat) (hk : k < l.length), k ≤ dgK l → isDg l[k] = false → k = dgK l
  | c :: r, 0, _, _, hd => by
    have hd : isDg c = false := hd
    unfold dgK
    rw [hd, if_neg (by decide)]
  | c :: r, k + 1, hk, h, hd => by
    unfold dgK at h ⊢
    split at h
    · rw [if_pos (by assumption)]
      have := dgK_no r k (by simpa using hk) (by omega) (by simpa using hd)
      omega
    · omega

theorem dgK_digit : ∀ (l : List UInt8) (k : Nat) (hk : k < l.length), k < dgK l → isDg l[k] = true
  | c :: r, 0, _, h => by
    unfold dgK at h
    split at h
    · simpa
    · omega
  | c :: r, k + 1, hk, h => by
    unfold dgK at h
    split at h
    · simpa using dgK_digit r k (by simpa using hk) (by omega)
    · omega

theorem dgK_take (l : List UInt8) : ∀ c ∈ l.take (dgK l), isDg c = true := by
  intro c hc
  obtain ⟨i, hi, rfl⟩ := List.getElem_of_mem hc
  simp only [List.length_take] at hi
  rw [List.getElem_take]
  exact dgK_digit l i (by omega) (by omega)

theorem dgK_append_all : ∀ (d t : List UInt8), (∀ c ∈ d, isDg c = true) → (∀ c r, t = c :: r → isDg c = false) → dgK (d ++ t) = d.length
  | [], t, _, ht => by
    cases t with
    | nil => rfl
    | cons c r => simp [dgK, ht c r rfl]
  | c :: d, t, hd, ht => by
    have h1 := hd c (by simp)
    have := dgK_append_all d t (fun c hc => hd c (by simp [hc])) ht
    simp [dgK, h1, this]

/-- The number that digits spell, behind a number. -/
def dvalF (n : Nat) (l : List UInt8) : Nat := l.foldl (fun n c => 10 * n + (c.toNat - 48)) n

def dval (l : List UInt8) : Nat := dvalF 0 l

theorem dvalF_ge (l : List UInt8) : ∀ n, n ≤ dvalF n l := by
  induction l with
  | nil => intro n; exact Nat.le_refl _
  | cons c r ih => intro n; have := ih (10 * n + (c.toNat - 48)); simp only [dvalF, List.foldl_cons] at this ⊢; omega

theorem dvalF_append (n : Nat) (a b : List UInt8) : dvalF n (a ++ b) = dvalF (dvalF n a) b := by
  simp [dvalF, List.foldl_append]

theorem dval_snoc (l : List UInt8) (c : UInt8) : dval (l ++ [c]) = 10 * dval l + (c.toNat - 48) := by
  simp [dval, dvalF, List.foldl_append]

theorem dval_mono (l : List UInt8) (i j : Nat) (h : i ≤ j) : dval (l.take i) ≤ dval (l.take j) := by
  have e : l.take j = l.take i ++ (l.drop i).take (j - i) := by
    rw [← List.take_add]
    congr 1
    omega
  rw [e]
  unfold dval
  rw [dvalF_append]
  exact dvalF_ge _ _

theorem parse_digits : ∀ (l : List UInt8) (n : Nat), (∀ c ∈ l, isDg c = true) → n < 18446744073709551616 →
    Lib.parseUint10 n l = if dvalF n l < 18446744073709551616 then .ok (dvalF n l) else .range
  | [], n, _, hn => by
    simp [Lib.parseUint10, dvalF, hn]
  | c :: r, n, h, hn => by
    have hc := isDg_iff.1 (h c (by simp))
    have e : dvalF n (c :: r) = dvalF (n * 10 + (c.toNat - 48)) r := by simp [dvalF, Nat.mul_comm]
    have hge := dvalF_ge r (n * 10 + (c.toNat - 48))
    rw [e]
    unfold Lib.parseUint10
    rw [if_pos hc]
    by_cases h1 : 1844674407370955162 ≤ n
    · rw [if_pos h1, if_neg (by omega)]
    · rw [if_neg h1]
      by_cases h2 : 18446744073709551616 ≤ n * 10 + (c.toNat - 48)
      · rw [if_pos h2, if_neg (by omega)]
      · rw [if_neg h2]
        exact parse_digits r _ (fun c hc => h c (by simp [hc])) (by omega)

theorem atoi_digits (l : List UInt8) (h : ∀ c ∈ l, isDg c = true) (hl : l ≠ []) :
    Lib.atoiAll l = if dval l ≤ 9223372036854775807 then .ok (dval l : Int) else .range := by
  cases l with
  | nil => exact absurd rfl hl
  | cons c r =>
    have hc := isDg_iff.1 (h c (by simp))
    unfold Lib.atoiAll
    simp only [if_neg (show ¬ (c.toNat = 43 ∨ c.toNat = 45) by omega)]
    unfold Lib.parseMag
    rw [if_neg hl, parse_digits _ 0 h (by decide)]
    show _ = if dvalF 0 (c :: r) ≤ _ then Lib.NumEnd.ok (dvalF 0 (c :: r) : Int) else .range
    by_cases h1 : dvalF 0 (c :: r) < 18446744073709551616
    · rw [if_pos h1]
      simp only [if_neg (show ¬ c.toNat = 45 by omega)]
      by_cases h2 : dvalF 0 (c :: r) ≤ 9223372036854775807
      · rw [if_pos h2, if_neg (by omega), if_neg (by omega)]
      · rw [if_neg h2, if_pos (by omega)]
    · rw [if_neg h1, if_neg (by omega)]

/-- How a text is parsed: the fault. -/
def pE (l : List UInt8) : Int :=
  if l = [] then 3 else if dgK l = 0 ∨ (1 < dgK l ∧ l.head? = some 48) then 4 else if dval (l.take (dgK l)) ≤ 9223372036854775807 then 0 else 20

/-- The number. -/
def pV (l : List UInt8) : Int := if pE l = 0 then (dval (l.take (dgK l)) : Int) else 0

/-- The digits' count. -/
def pN (l : List UInt8) : Int := if pE l = 0 then (dgK l : Int) else 0

theorem pE_nil : pE [] = 3 ∧ pV [] = 0 ∧ pN [] = 0 := ⟨rfl, rfl, rfl⟩

theorem p_form {l : List UInt8} (h0 : l ≠ []) (h : dgK l = 0 ∨ (1 < dgK l ∧ l.head? = some 48)) : pE l = 4 ∧ pV l = 0 ∧ pN l = 0 := by
  have e : pE l = 4 := by unfold pE; rw [if_neg h0, if_pos h]
  refine ⟨e, ?_, ?_⟩
  · unfold pV; rw [e]; rfl
  · unfold pN; rw [e]; rfl

theorem p_ok {l : List UInt8} (h0 : l ≠ []) (h : ¬ (dgK l = 0 ∨ (1 < dgK l ∧ l.head? = some 48))) (hv : dval (l.take (dgK l)) ≤ 9223372036854775807) : pE l = 0 ∧ pV l = dval (l.take (dgK l)) ∧ pN l = dgK l := by
  have e : pE l = 0 := by unfold pE; rw [if_neg h0, if_neg h, if_pos hv]
  refine ⟨e, ?_, ?_⟩
  · unfold pV; rw [if_pos e]
  · unfold pN; rw [if_pos e]

theorem p_num {l : List UInt8} (h0 : l ≠ []) (h : ¬ (dgK l = 0 ∨ (1 < dgK l ∧ l.head? = some 48))) (hv : 9223372036854775807 < dval (l.take (dgK l))) : pE l = 20 ∧ pV l = 0 ∧ pN l = 0 := by
  have e : pE l = 20 := by unfold pE; rw [if_neg h0, if_neg h, if_neg (by omega)]
  refine ⟨e, ?_, ?_⟩
  · unfold pV; rw [e]; rfl
  · unfold pN; rw [e]; rfl

theorem dec_one {u : Nat} (h : u < 10) : Lib.decDigits u = [UInt8.ofNat (48 + u)] := by rw [Lib.decDigits, dif_pos h]
theorem dec_more {u : Nat} (h : ¬ u < 10) : Lib.decDigits u = Lib.decDigits (u / 10) ++ [UInt8.ofNat (48 + u % 10)] := by rw [Lib.decDigits, dif_neg h]

theorem dig_byte_nat {d : Nat} (h : d < 10) : (UInt8.ofNat (48 + d)).toNat = 48 + d := by
  rw [UInt8.toNat_ofNat']
  omega

theorem dec_digits (u : Nat) : ∀ c ∈ Lib.decDigits u, isDg c = true := by
  induction u using Nat.strongRecOn with
  | ind u ih =>
    intro c hc
    by_cases h : u < 10
    · rw [dec_one h] at hc
      obtain rfl := List.mem_singleton.1 hc
      exact isDg_iff.2 (by rw [dig_byte_nat h]; omega)
    · rw [dec_more h] at hc
      rcases List.mem_append.1 hc with hc | hc
      · exact ih (u / 10) (by omega) c hc
      · obtain rfl := List.mem_singleton.1 hc
        have := dig_byte_nat (d := u % 10) (by omega)
        exact isDg_iff.2 (by omega)

theorem dec_val (u : Nat) : dval (Lib.decDigits u) = u := by
  induction u using Nat.strongRecOn with
  | ind u ih =>
    by_cases h : u < 10
    · rw [dec_one h]
      show 10 * 0 + ((UInt8.ofNat (48 + u)).toNat - 48) = u
      rw [dig_byte_nat h]
      omega
    · rw [dec_more h, dval_snoc, ih (u / 10) (by omega)]
      have := dig_byte_nat (d := u % 10) (by omega)
      omega

theorem dec_pos (u : Nat) : 0 < (Lib.decDigits u).length := by
  by_cases h : u < 10
  · rw [dec_one h]; simp
  · rw [dec_more h]; simp

theorem dec_len {u : Nat} (k : Nat) (h : u < 10 ^ (k + 1)) : (Lib.decDigits u).length ≤ k + 1 := by
  induction k generalizing u with
  | zero => rw [dec_one (by simpa using h)]; simp
  | succ k ih =>
    by_cases h1 : u < 10
    · rw [dec_one h1]; simp
    · rw [dec_more h1]
      have := ih (u := u / 10) (by rw [Nat.pow_succ] at h; omega)
      simp
      omega

theorem head_app (l r : List UInt8) (h : l ≠ []) : (l ++ r).head? = l.head? := by cases l with
  | nil => exact absurd rfl h
  | cons a b => rfl

theorem dec_head (u : Nat) (hu : 0 < u) : (Lib.decDigits u).head? ≠ some 48 := by
  induction u using Nat.strongRecOn with
  | ind u ih =>
    by_cases h : u < 10
    · rw [dec_one h]
      intro e
      have e2 : (UInt8.ofNat (48 + u)).toNat = 48 := by
        simp only [List.head?_cons, Option.some.injEq] at e
        rw [e]; rfl
      rw [dig_byte_nat h] at e2
      omega
    · rw [dec_more h]
      have hp := dec_pos (u / 10)
      rw [head_app _ _ (List.ne_nil_of_length_pos hp)]
      exact ih (u / 10) (by omega) (by omega)

/-- A numeral and what stands behind it: the numeral is read. -/
theorem dec_parse (u : Nat) (t : List UInt8) (hu : u ≤ 9223372036854775807) (ht : ∀ c r, t = c :: r → isDg c = false) :
    pE (Lib.decDigits u ++ t) = 0 ∧ pV (Lib.decDigits u ++ t) = u ∧ pN (Lib.decDigits u ++ t) = (Lib.decDigits u).length := by
  have hk := dgK_append_all (Lib.decDigits u) t (dec_digits u) ht
  have hp := dec_pos u
  have hne : Lib.decDigits u ++ t ≠ [] := by
    intro e
    have := congrArg List.length e
    rw [List.length_append] at this
    simp only [List.length_nil] at this
    omega
  have htk : (Lib.decDigits u ++ t).take (dgK (Lib.decDigits u ++ t)) = Lib.decDigits u := by rw [hk, List.take_left]
  have hv := dec_val u
  have := p_ok hne (by
    rw [hk]
    rintro (h | ⟨h1, h2⟩)
    · omega
    · rw [head_app _ _ (List.ne_nil_of_length_pos hp)] at h2
      rcases Nat.eq_zero_or_pos u with rfl | hu
      · rw [dec_one (by decide)] at h1
        simp at h1
      · exact dec_head u hu h2) (by rw [htk, hv]; exact hu)
  rw [htk, hv, hk] at this
  exact this

/-- A text that begins with no digit. -/
theorem sign_parse (c : UInt8) (r : List UInt8) (h : isDg c = false) : pE (c :: r) = 4 ∧ pV (c :: r) = 0 ∧ pN (c :: r) = 0 :=
  p_form (by simp) (.inl (by simp [dgK, h]))

end Go.Proofs.YtkbfbcfgjgpfgaaDoor
