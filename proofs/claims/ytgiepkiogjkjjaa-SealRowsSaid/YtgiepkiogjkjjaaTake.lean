/-
  Taking a varint, as a plain function on a list of numbers: its number, where it ends, what is wrong first (0: nothing, 3: the end, 4: the form). No program in sight.
-/
import Derived.Test.YtgiepkiogjkjjaaMath
namespace Go.Proofs.Ytgiepkiogjkjjaa

def Bad (most : Nat) (first : Bool) (u : Nat) (b : Int) : Bool := (first && b == 128) || decide (most < u * 128 + (b % 128).toNat)

def tkF (most : Nat) : Bool → Nat → Nat → List Int → Nat × Nat × Int
  | _, _, _, [] => (0, 0, 3)
  | first, u, i, b :: r => if Bad most first u b then (0, 0, 4) else if b < 128 then (u * 128 + (b % 128).toNat, i + 1, 0) else tkF most false (u * 128 + (b % 128).toNat) (i + 1) r

theorem tkF_nil (most : Nat) (first : Bool) (u i : Nat) : tkF most first u i [] = (0, 0, 3) := by unfold tkF; rfl
theorem tkF_bad {most : Nat} {first : Bool} {u i : Nat} {b : Int} {r : List Int} (h : Bad most first u b = true) : tkF most first u i (b :: r) = (0, 0, 4) := by
  rw [tkF, if_pos h]
theorem tkF_end {most : Nat} {first : Bool} {u i : Nat} {b : Int} {r : List Int} (h : Bad most first u b = false) (h2 : b < 128) : tkF most first u i (b :: r) = (u * 128 + (b % 128).toNat, i + 1, 0) := by
  rw [tkF, if_neg (by simp [h]), if_pos h2]
theorem tkF_more {most : Nat} {first : Bool} {u i : Nat} {b : Int} {r : List Int} (h : Bad most first u b = false) (h2 : ¬ b < 128) : tkF most first u i (b :: r) = tkF most false (u * 128 + (b % 128).toNat) (i + 1) r := by
  rw [tkF, if_neg (by simp [h]), if_neg h2]

theorem Bad_le {most : Nat} {first : Bool} {u : Nat} {b : Int} (h : Bad most first u b = false) : u * 128 + (b % 128).toNat ≤ most := by
  simp [Bad] at h; omega

theorem drop_cons {l : List Int} {k : Nat} (h : k < l.length) : l.drop k = l.getD k 0 :: l.drop (k + 1) := by
  rw [List.drop_eq_getElem_cons h]; simp [List.getD, List.getElem?_eq_getElem h]

theorem tkF_le {most : Nat} : ∀ (l : List Int) (f : Bool) (u i : Nat), (tkF most f u i l).1 ≤ most := by
  intro l
  induction l with
  | nil => intro f u i; simp [tkF_nil]
  | cons b r ih =>
    intro f u i
    cases h : Bad most f u b with
    | true => rw [tkF_bad h]; simp
    | false =>
      by_cases h2 : b < 128
      · rw [tkF_end h h2]; exact Bad_le h
      · rw [tkF_more h h2]; exact ih _ _ _

/-- What is told: the number's end lies within; beside an error all else is 0. -/
theorem tkF_told {most : Nat} : ∀ (l : List Int) (f : Bool) (u i : Nat),
    ((tkF most f u i l).2.2 = 0 ∧ i < (tkF most f u i l).2.1 ∧ (tkF most f u i l).2.1 ≤ i + l.length) ∨
    (((tkF most f u i l).2.2 = 3 ∨ (tkF most f u i l).2.2 = 4) ∧ (tkF most f u i l).2.1 = 0 ∧ (tkF most f u i l).1 = 0) := by
  intro l
  induction l with
  | nil => intro f u i; simp [tkF_nil]
  | cons b r ih =>
    intro f u i
    cases h : Bad most f u b with
    | true => rw [tkF_bad h]; simp
    | false =>
      by_cases h2 : b < 128
      · rw [tkF_end h h2]; simp
      · rw [tkF_more h h2]
        rcases ih false (u * 128 + (b % 128).toNat) (i + 1) with ⟨h3, h4, h5⟩ | h3
        · left; exact ⟨h3, by omega, by simp; omega⟩
        · exact .inr h3

def M63 : Nat := 9223372036854775807
def M64 : Nat := 18446744073709551615

/-- The number whose fold is u. -/
def unf (u : Nat) : Int := if u % 2 = 0 then (u / 2 : Nat) else -((u / 2 : Nat) : Int) - 1

/-- A size at most that great. -/
def szF (most : Nat) (i : Nat) (l : List Int) : Nat × Nat × Int :=
  if most < (tkF M63 true 0 i l).1 then (0, 0, 2) else tkF M63 true 0 i l

theorem szF_told (most i : Nat) (l : List Int) :
    ((szF most i l).2.2 = 0 ∧ i < (szF most i l).2.1 ∧ (szF most i l).2.1 ≤ i + l.length ∧ (szF most i l).1 ≤ most) ∨
    (((szF most i l).2.2 = 2 ∨ (szF most i l).2.2 = 3 ∨ (szF most i l).2.2 = 4) ∧ (szF most i l).2.1 = 0 ∧ (szF most i l).1 = 0) := by
  unfold szF
  split
  · right; simp
  · rename_i h
    rcases tkF_told (most := M63) l true 0 i with h2 | h2
    · left; exact ⟨h2.1, h2.2.1, h2.2.2, by omega⟩
    · right; exact ⟨.inr h2.1, h2.2⟩

/-- So many numbers from a place on: they, where the last one ends, what is wrong first. -/
def lsF (bs : List Int) : Nat → Nat → List Int × Nat × Int
  | 0, i => ([], i, 0)
  | n + 1, i => if (tkF M64 true 0 i (bs.drop i)).2.2 ≠ 0 then ([], 0, (tkF M64 true 0 i (bs.drop i)).2.2)
    else if (lsF bs n (tkF M64 true 0 i (bs.drop i)).2.1).2.2 ≠ 0 then ([], 0, (lsF bs n (tkF M64 true 0 i (bs.drop i)).2.1).2.2)
    else (unf (tkF M64 true 0 i (bs.drop i)).1 :: (lsF bs n (tkF M64 true 0 i (bs.drop i)).2.1).1, (lsF bs n (tkF M64 true 0 i (bs.drop i)).2.1).2.1, 0)

/-- Some numbers ahead of those that come. -/
def onF (vs : List Int) (s : List Int × Nat × Int) : List Int × Nat × Int := if s.2.2 ≠ 0 then ([], 0, s.2.2) else (vs ++ s.1, s.2.1, 0)

theorem lsF_told (bs : List Int) : ∀ (n i : Nat), i ≤ bs.length →
    ((lsF bs n i).2.2 = 0 ∧ (lsF bs n i).1.length = n ∧ i ≤ (lsF bs n i).2.1 ∧ (lsF bs n i).2.1 ≤ bs.length) ∨
    (((lsF bs n i).2.2 = 3 ∨ (lsF bs n i).2.2 = 4) ∧ (lsF bs n i).2.1 = 0 ∧ (lsF bs n i).1 = []) := by
  intro n
  induction n with
  | zero => intro i hi; left; simp [lsF, hi]
  | succ n ih =>
    intro i hi
    have ht := tkF_told (most := M64) (bs.drop i) true 0 i
    unfold lsF
    generalize tkF M64 true 0 i (bs.drop i) = r at *
    rcases ht with ⟨h1, h2, h3⟩ | ⟨h1, h2, h3⟩
    · have h4 : r.2.1 ≤ bs.length := by simp at h3; omega
      rw [if_neg (by simp [h1])]
      have h5 := ih r.2.1 h4
      generalize lsF bs n r.2.1 = s at *
      rcases h5 with ⟨h5, h6, h7, h8⟩ | ⟨h5, h6, h7⟩
      · rw [if_neg (by simp [h5])]
        left; simp; omega
      · rw [if_pos (by omega)]
        right; simp; exact h5
    · rw [if_pos (by omega)]
      right; simp; exact h1

theorem onF_nil (bs : List Int) (n i : Nat) (hi : i ≤ bs.length) : onF [] (lsF bs n i) = lsF bs n i := by
  unfold onF
  rcases lsF_told bs n i hi with ⟨h1, h2, h3, h4⟩ | ⟨h1, h2, h3⟩
  · rw [if_neg (by simp [h1])]; simp; exact Prod.ext rfl (Prod.ext rfl h1.symm)
  · rw [if_pos (by omega)]; exact Prod.ext h3.symm (Prod.ext h2.symm rfl)

theorem onF_bad {bs vs : List Int} {n i : Nat} (h : (tkF M64 true 0 i (bs.drop i)).2.2 ≠ 0) : onF vs (lsF bs (n + 1) i) = ([], 0, (tkF M64 true 0 i (bs.drop i)).2.2) := by
  have e : lsF bs (n + 1) i = ([], 0, (tkF M64 true 0 i (bs.drop i)).2.2) := by rw [lsF, if_pos h]
  rw [e]; unfold onF; rw [if_pos h]

theorem onF_good {bs vs : List Int} {n i : Nat} (h : (tkF M64 true 0 i (bs.drop i)).2.2 = 0) :
    onF vs (lsF bs (n + 1) i) = onF (vs ++ [unf (tkF M64 true 0 i (bs.drop i)).1]) (lsF bs n (tkF M64 true 0 i (bs.drop i)).2.1) := by
  rw [lsF, if_neg (by simp [h])]
  generalize lsF bs n (tkF M64 true 0 i (bs.drop i)).2.1 = s
  by_cases hs : s.2.2 ≠ 0
  · rw [if_pos hs]; unfold onF; simp only [if_pos hs]
  · rw [if_neg hs]; unfold onF; simp only [if_neg hs]; simp

/-- A row at the front. -/
def liF (at0 : Nat) (bs : List Int) : List Int × Nat × Int :=
  if (szF 4096 at0 (bs.drop at0)).2.2 ≠ 0 then ([], 0, (szF 4096 at0 (bs.drop at0)).2.2) else lsF bs (szF 4096 at0 (bs.drop at0)).1 (szF 4096 at0 (bs.drop at0)).2.1

end Go.Proofs.Ytgiepkiogjkjjaa
