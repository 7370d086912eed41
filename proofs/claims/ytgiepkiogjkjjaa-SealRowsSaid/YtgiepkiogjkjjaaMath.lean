/-
  Varints as plain lists of numbers: the digits of a number in base 128, the most significant one first, 128 added to each but the last. No program in sight.
-/
import Derived.RowKit3
namespace Go.Proofs.Ytgiepkiogjkjjaa

def digsF : Nat → Nat → List Int
  | 0, _ => []
  | f + 1, n => if n = 0 then [] else digsF f (n / 128) ++ [((n % 128 + 128 : Nat) : Int)]

theorem digsF_more : ∀ (f g n : Nat), n ≤ f → n ≤ g → digsF f n = digsF g n := by
  intro f
  induction f with
  | zero =>
    intro g n hf hg
    obtain rfl : n = 0 := by omega
    cases g <;> simp [digsF]
  | succ f ih =>
    intro g n hf hg
    cases g with
    | zero =>
      obtain rfl : n = 0 := by omega
      simp [digsF]
    | succ g =>
      simp only [digsF]
      by_cases h : n = 0
      · simp [h]
      · rw [if_neg h, if_neg h, ih g (n / 128) (by omega) (by omega)]

def digs (n : Nat) : List Int := digsF n n

theorem digs_zero : digs 0 = [] := rfl
theorem digs_pos (n : Nat) (h : n ≠ 0) : digs n = digs (n / 128) ++ [((n % 128 + 128 : Nat) : Int)] := by
  cases n with
  | zero => exact absurd rfl h
  | succ m =>
    show digsF (m + 1) (m + 1) = _
    simp only [digsF]
    rw [if_neg h, digsF_more m ((m + 1) / 128) ((m + 1) / 128) (by omega) (by omega)]
    rfl

def enc (n : Nat) : List Int := digs (n / 128) ++ [((n % 128 : Nat) : Int)]

theorem enc_length_pos (n : Nat) : 0 < (enc n).length := by simp [enc]

theorem digs_length : ∀ (k n : Nat), n < 128 ^ k → (digs n).length ≤ k := by
  intro k
  induction k with
  | zero => intro n h; obtain rfl : n = 0 := by omega
            simp [digs_zero]
  | succ k ih =>
    intro n h
    by_cases h0 : n = 0
    · subst h0; simp [digs_zero]
    · rw [digs_pos n h0]
      have := ih (n / 128) (by rw [Nat.pow_succ] at h; omega)
      simp; omega

theorem enc_length (n : Nat) (h : n < 18446744073709551616) : (enc n).length ≤ 10 := by
  have := digs_length 9 (n / 128) (by omega)
  simp [enc]; omega

theorem digs_range : ∀ (f n : Nat), n ≤ f → ∀ x ∈ digs n, 128 ≤ x ∧ x < 256 := by
  intro f
  induction f with
  | zero => intro n h x hx; obtain rfl : n = 0 := by omega
            simp [digs_zero] at hx
  | succ f ih =>
    intro n h x hx
    by_cases h0 : n = 0
    · subst h0; simp [digs_zero] at hx
    · rw [digs_pos n h0] at hx
      rcases List.mem_append.1 hx with hx | hx
      · exact ih (n / 128) (by omega) x hx
      · simp at hx; omega

theorem enc_range (n : Nat) : ∀ x ∈ enc n, 0 ≤ x ∧ x < 256 := by
  intro x hx
  rcases List.mem_append.1 hx with hx | hx
  · have := digs_range (n / 128) (n / 128) (Nat.le_refl _) x hx; omega
  · simp at hx; omega

theorem digs_mono : ∀ (f n m : Nat), n ≤ f → n ≤ m → (digs n).length ≤ (digs m).length := by
  intro f
  induction f with
  | zero => intro n m h _; obtain rfl : n = 0 := by omega
            simp [digs_zero]
  | succ f ih =>
    intro n m h hm
    by_cases h0 : n = 0
    · subst h0; simp [digs_zero]
    · rw [digs_pos n h0, digs_pos m (by omega)]
      have := ih (n / 128) (m / 128) (by omega) (by omega)
      simp; omega

theorem enc_mono (n m : Nat) (h : n ≤ m) : (enc n).length ≤ (enc m).length := by
  have := digs_mono (n / 128) (n / 128) (m / 128) (Nat.le_refl _) (by omega)
  simp [enc]; omega

/-- What a row of digits stands for. -/
def dec (a : Int) (l : List Int) : Int := l.foldl (fun a x => a * 128 + x % 128) a

theorem dec_append (a : Int) (l k : List Int) : dec a (l ++ k) = dec (dec a l) k := by simp [dec]

theorem dec_digs : ∀ (f n : Nat), n ≤ f → dec 0 (digs n) = n := by
  intro f
  induction f with
  | zero => intro n h; obtain rfl : n = 0 := by omega
            rfl
  | succ f ih =>
    intro n h
    by_cases h0 : n = 0
    · subst h0; rfl
    · rw [digs_pos n h0, dec_append, ih (n / 128) (by omega)]
      simp [dec]; omega

theorem dec_enc (n : Nat) : dec 0 (enc n) = n := by
  rw [enc, dec_append, dec_digs (n / 128) (n / 128) (Nat.le_refl _)]
  simp [dec]; omega

theorem enc_inj {n m : Nat} (h : enc n = enc m) : n = m := by
  have := dec_enc n
  rw [h, dec_enc m] at this
  omega

end Go.Proofs.Ytgiepkiogjkjjaa
