/-
  What was written is taken, and what is taken was written so: of plain lists of numbers alone.
-/
import Derived.Test.YtgiepkiogjkjjaaTake
namespace Go.Proofs.Ytgiepkiogjkjjaa

theorem tkF_form {most : Nat} : ∀ (l : List Int) (f : Bool) (u i : Nat) (p : List Int), (∀ x ∈ l, 0 ≤ x ∧ x < 256) → ((f = true ∧ u = 0 ∧ p = []) ∨ (f = false ∧ u ≠ 0 ∧ p = digs u)) →
    (tkF most f u i l).2.2 = 0 → p ++ l.take ((tkF most f u i l).2.1 - i) = enc (tkF most f u i l).1 := by
  intro l
  induction l with
  | nil => intro f u i p _ _ h; simp [tkF_nil] at h
  | cons b r ih =>
    intro f u i p hx hp h
    have hb := hx b (by simp)
    have hpd : p = digs u := by
      rcases hp with ⟨_, hu, hp⟩ | ⟨_, _, hp⟩
      · rw [hp, hu, digs_zero]
      · exact hp
    cases hbad : Bad most f u b with
    | true => rw [tkF_bad hbad] at h; simp at h
    | false =>
      by_cases h2 : b < 128
      · rw [tkF_end hbad h2]
        simp only [Nat.add_sub_cancel_left, List.take_succ_cons, List.take_zero]
        unfold enc
        rw [show (u * 128 + (b % 128).toNat) / 128 = u by omega, hpd]
        congr 2; omega
      · rw [tkF_more hbad h2] at h ⊢
        have hne : u * 128 + (b % 128).toNat ≠ 0 := by
          rcases hp with ⟨hf, hu, _⟩ | ⟨_, hu, _⟩
          · subst hf; subst hu
            simp [Bad] at hbad
            have := hbad.1; omega
          · omega
        have hd : digs (u * 128 + (b % 128).toNat) = p ++ [b] := by
          rw [digs_pos _ hne, hpd, show (u * 128 + (b % 128).toNat) / 128 = u by omega]
          congr 2; omega
        have hi := ih false (u * 128 + (b % 128).toNat) (i + 1) (p ++ [b]) (fun x h => hx x (by simp [h])) (.inr ⟨rfl, hne, hd.symm⟩) h
        have ht := tkF_told (most := most) r false (u * 128 + (b % 128).toNat) (i + 1)
        rw [← hi]
        rcases ht with ⟨_, h5, _⟩ | ⟨h5, _⟩
        · rw [show (tkF most false (u * 128 + (b % 128).toNat) (i + 1) r).2.1 - i = (tkF most false (u * 128 + (b % 128).toNat) (i + 1) r).2.1 - (i + 1) + 1 by omega, List.take_succ_cons]
          simp
        · rw [h] at h5; omega

/-- What is taken was written just so. -/
theorem take_form {most i : Nat} {l : List Int} (hx : ∀ x ∈ l, 0 ≤ x ∧ x < 256) (h : (tkF most true 0 i l).2.2 = 0) : l.take ((tkF most true 0 i l).2.1 - i) = enc (tkF most true 0 i l).1 := by
  simpa using tkF_form l true 0 i [] hx (.inl ⟨rfl, rfl, rfl⟩) h

theorem tkF_digs {most : Nat} : ∀ (f n i : Nat) (l : List Int), n ≤ f → n ≤ most →
    tkF most true 0 i (digs n ++ l) = if n = 0 then tkF most true 0 i l else tkF most false n (i + (digs n).length) l := by
  intro f
  induction f with
  | zero => intro n i l h _; obtain rfl : n = 0 := by omega
            simp [digs_zero]
  | succ f ih =>
    intro n i l h hm
    by_cases h0 : n = 0
    · subst h0; simp [digs_zero]
    · rw [if_neg h0, digs_pos n h0, List.append_assoc, ih (n / 128) i _ (by omega) (by omega)]
      have hge : ¬ (((n % 128 + 128 : Nat) : Int) < 128) := by omega
      have hm1 : (((n % 128 + 128 : Nat) : Int) % 128).toNat = n % 128 := by omega
      by_cases h1 : n / 128 = 0
      · rw [if_pos h1, h1, digs_zero]
        simp only [List.nil_append, List.cons_append, List.length_cons, List.length_nil]
        rw [tkF_more (by simp only [Bad, hm1, Bool.or_eq_false_iff, Bool.and_eq_false_iff, decide_eq_false_iff_not, beq_eq_false_iff_ne]; omega) hge, hm1]
        congr 1; omega
      · rw [if_neg h1]
        simp only [List.nil_append, List.cons_append, List.length_append, List.length_cons, List.length_nil]
        rw [tkF_more (by simp only [Bad, hm1, Bool.or_eq_false_iff, Bool.and_eq_false_iff, decide_eq_false_iff_not, beq_eq_false_iff_ne]; exact ⟨.inl trivial, by omega⟩) hge, hm1]
        congr 1; omega

/-- What was written is taken. -/
theorem take_back {most n i : Nat} (l : List Int) (h : n ≤ most) : tkF most true 0 i (enc n ++ l) = (n, i + (enc n).length, 0) := by
  unfold enc
  rw [List.append_assoc, tkF_digs (n / 128) (n / 128) i _ (Nat.le_refl _) (by omega)]
  have hlt : ((n % 128 : Nat) : Int) < 128 := by omega
  have hm1 : (((n % 128 : Nat) : Int) % 128).toNat = n % 128 := by omega
  by_cases h1 : n / 128 = 0
  · rw [if_pos h1, h1, digs_zero]
    simp only [List.cons_append, List.nil_append, List.length_cons, List.length_nil]
    rw [tkF_end (by simp only [Bad, hm1, Bool.or_eq_false_iff, Bool.and_eq_false_iff, decide_eq_false_iff_not, beq_eq_false_iff_ne]; omega) hlt, hm1]
    refine Prod.ext ?_ (Prod.ext ?_ rfl)
    · simp; omega
    · simp
  · rw [if_neg h1]
    simp only [List.cons_append, List.nil_append, List.length_append, List.length_cons, List.length_nil]
    rw [tkF_end (by simp only [Bad, hm1, Bool.or_eq_false_iff, Bool.and_eq_false_iff, decide_eq_false_iff_not, beq_eq_false_iff_ne]; omega) hlt, hm1]
    refine Prod.ext ?_ (Prod.ext ?_ rfl)
    · simp; omega
    · simp; omega

end Go.Proofs.Ytgiepkiogjkjjaa
