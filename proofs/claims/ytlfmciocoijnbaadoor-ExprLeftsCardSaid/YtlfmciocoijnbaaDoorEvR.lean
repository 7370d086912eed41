/-
  What reading a text comes to: a tree, or a fault that is one.
-/
import Derived.Test.YtlfmciocoijnbaaDoorEB
import Derived.Test.YtlfmciocoijnbaaDoorEwA
import Derived.Test.YtlfmciocoijnbaaDoorEpLaid
namespace Go.Proofs.YtlfmciocoijnbaaDoor
open Go.RowKit

theorem PR.andThen_bad {e : PR} {g : Ex → List Tk → PR} {c p : Int} (h : e.andThen g = .bad c p) : e = .bad c p ∨ ∃ x u, e = .ok x u ∧ g x u = .bad c p := by
  cases e with
  | out => cases h
  | bad c p => exact .inl h
  | ok x u => exact .inr ⟨x, u, rfl, h⟩

theorem wrongAt_bad {t : Tk} {c p : Int} (h : wrongAt t = .bad c p) : c ≠ 0 := by
  unfold wrongAt at h
  split at h <;> (injection h with h _; subst h; decide)

theorem shutP_bad {x : Ex} {r : List Tk} {c p : Int} (he : TkEnds r) (h : shutP x r = .bad c p) : c ≠ 0 := by
  obtain ⟨t, r, rfl⟩ := ends_cons he
  rw [shutP_cons] at h
  split at h
  · cases h
  · exact wrongAt_bad h

theorem innP_bad {q : Int} {r : List Tk} {c p : Int} (he : TkEnds r) (h : innP q r = .bad c p) : c ≠ 0 := by
  obtain ⟨t, r, rfl⟩ := ends_cons he
  rw [innP_cons] at h
  split at h
  · rename_i h1
    have he1 := he.tail (sg_kind h1)
    obtain ⟨u, r, rfl⟩ := ends_cons he1
    rw [nameP_cons] at h
    split at h
    · rename_i h2
      exact shutP_bad (he1.tail (by rw [h2]; decide)) h
    · exact wrongAt_bad h
  · exact wrongAt_bad h

theorem p_bad : ∀ f,
    (∀ k d ts c p, TkEnds ts → pFrom f k d ts = .bad c p → c ≠ 0) ∧
    (∀ k d y ts c p, TkEnds ts → pMore f k d y ts = .bad c p → c ≠ 0) ∧
    (∀ d ts c p, TkEnds ts → pOne f d ts = .bad c p → c ≠ 0)
  | 0 => ⟨fun _ _ _ _ _ _ h => by simp [pFrom] at h, fun _ _ _ _ _ _ _ h => by simp [pMore] at h, fun _ _ _ _ _ h => by simp [pOne] at h⟩
  | f + 1 => by
    obtain ⟨h1, h2, h3⟩ := p_bad f
    refine ⟨fun k d ts c p he h => ?_, fun k d y ts c p he h => ?_, fun d ts c p he h => ?_⟩
    · rw [pFrom_succ] at h
      split at h
      · exact h3 _ _ _ _ he h
      · rcases PR.andThen_bad h with h | ⟨z, v, e, hh⟩
        · exact h1 _ _ _ _ _ he h
        · obtain ⟨u, rfl, a⟩ := (p_used f).1 _ _ _ _ _ e
          exact h2 _ _ _ _ _ _ (he.rest a) hh
    · rw [pMore_succ] at h
      split at h
      · cases h
      · rename_i h0
        obtain ⟨t, ts, rfl⟩ := opAt_some h0
        obtain ⟨_, _, hk, _⟩ := row_of_op h0
        rw [List.tail_cons] at h
        have he1 : TkEnds ts := he.tail (by rw [hk]; decide)
        rcases PR.andThen_bad h with h | ⟨z, v, e, hh⟩
        · exact h1 _ _ _ _ _ he1 h
        · obtain ⟨u, rfl, a⟩ := (p_used f).1 _ _ _ _ _ e
          exact h2 _ _ _ _ _ _ (he1.rest a) hh
    · obtain ⟨t, ts, rfl⟩ := ends_cons he
      rw [pOne_cons] at h
      split at h
      · rename_i hs
        have he1 : TkEnds ts := he.tail (hs.elim sg_kind sg_kind)
        split at h
        · injection h with h _; subst h; decide
        · rcases PR.andThen_bad h with h | ⟨z, v, e, hh⟩
          · exact h3 _ _ _ _ he1 h
          · cases hh
      · split at h
        · rename_i ho
          have he1 : TkEnds ts := he.tail (sg_kind ho)
          split at h
          · injection h with h _; subst h; decide
          · rcases PR.andThen_bad h with h | ⟨z, v, e, hh⟩
            · exact h1 _ _ _ _ _ he1 h
            · obtain ⟨u, rfl, a⟩ := (p_used f).1 _ _ _ _ _ e
              exact shutP_bad (he1.rest a) hh
        · split at h
          · cases h
          · split at h
            · cases h
            · split at h
              · rename_i h2'
                exact innP_bad (he.tail (by rw [h2'.1]; decide)) h
              · exact wrongAt_bad h

theorem Pf_bad {k d : Nat} {ts : List Tk} {c p : Int} (he : TkEnds ts) (h : Pf k d ts = .bad c p) : c ≠ 0 := (p_bad _).1 _ _ _ _ _ he h

/-- Where there is no tree there is a fault. -/
theorem rd_none {l : List UInt8} {c p : Int} (h : rdR l = (none, c, p)) : c ≠ 0 := by
  have h' := rdR_of l (scF l).1 (scF l).2.1 (scF l).2.2 rfl
  rw [h'] at h
  clear h'
  by_cases h0 : (scF l).2.1 = 0
  · rw [if_pos h0] at h
    have he := scF_ends h0
    cases hp : Pf 0 0 (scF l).1 with
    | out => exact absurd hp (Pf_out (by omega))
    | bad cc pp =>
      rw [hp] at h
      simp only [rdOf, Prod.mk.injEq, true_and] at h
      rw [← h.1]
      exact Pf_bad he hp
    | ok x r =>
      obtain ⟨t, r, rfl⟩ := ends_cons (Pf_used hp he)
      rw [hp] at h
      simp only [rdOf] at h
      split at h
      · cases h
      · simp only [Prod.mk.injEq, true_and] at h
        rw [← h.1]
        decide
  · rw [if_neg h0] at h
    simp only [Prod.mk.injEq, true_and] at h
    rw [← h.1]
    exact h0

/-- The text of a tree that is too long. -/
theorem gx_txt_long {e : Ex} (h : e.fine) (hl : 16384 < e.tx.length) : e.gx.txt = [] := by
  unfold GX.txt GX.right
  rw [gx_ex e h]
  have : ¬ (e.er.nst ≤ 20 ∧ e.er.tx.length ≤ 16384) := fun hh => by rw [er_tx] at hh; omega
  show (match (if e.er.nst ≤ 20 ∧ e.er.tx.length ≤ 16384 then some e.er else none) with | some e => e.tx | none => []) = []
  rw [if_neg this]

end Go.Proofs.YtlfmciocoijnbaaDoor
