/-
  The law OctetBack: its walk.
-/
import Derived.Test.YtgiepkiogjkjjaaSame
import Derived.Deep.DeepCutAuto
namespace Go.Proofs.Ytgiepkiogjkjjaa
open Go.RowKit

theorem ownsRow_empty (w : World) : (w.alloc (.cells #[] 5)).ownsRow w.heap.size 5 1 (.slice (some ⟨w.heap.size, 0, none⟩) 0 0) 0 (([] : List Int).map (Value.int .u8)) :=
  World.ownsRow_made w #[] 0 (Nat.le_refl _) (by unfold maxLen; omega) (by simp)

theorem encs_range (ns : List Int) : ∀ x ∈ encs ns, 0 ≤ x ∧ x < 256 := by
  intro x hx
  simp only [encs, List.mem_flatMap] at hx
  obtain ⟨n, _, hx⟩ := hx
  exact enc_range _ x hx

theorem liF_len (bs : List Int) : (liF 0 bs).1.length ≤ 4096 := by
  unfold liF
  have ht := szF_told 4096 0 (bs.drop 0)
  generalize szF 4096 0 (bs.drop 0) = r at *
  split
  · simp
  · rename_i h
    rcases ht with ⟨h1, h2, h3, h4⟩ | ⟨h1, _⟩
    · rcases lsF_told bs r.1 r.2.1 (by simp at h3; omega) with h5 | h5
      · omega
      · rw [h5.2.2]; simp
    · omega

/-- What TakeInts tells, as a source of numbers. -/
theorem ListIs.reads {w : World} {G : Nat} {v : Value} {T : List Int × Nat × Int} (h : ListIs w G v T) (he : T.2.2 ≠ 0 → T.1 = []) :
    ∃ ao l c, v = .slice ao l c ∧ ReadsI w ao T.1 ∧ T.1.length = l := by
  rcases h with ⟨h1, rfl⟩ | ⟨h1, g, rfl, ho⟩
  · exact ⟨none, 0, 0, rfl, .inl (he h1), by rw [he h1]; rfl⟩
  · refine ⟨some ⟨g, 0, none⟩, _, _, rfl, .inr ⟨g, 0, rfl, fun i hi => ?_⟩, rfl⟩
    have := ho.cellAt i (by omega)
    rw [Nat.zero_add, this, List.getElem?_map, List.getElem?_eq_getElem hi]
    simp [List.getD, List.getElem?_eq_getElem hi]

theorem liF_bad (bs : List Int) : (liF 0 bs).2.2 ≠ 0 → (liF 0 bs).1 = [] := by
  unfold liF
  have ht := szF_told 4096 0 (bs.drop 0)
  generalize szF 4096 0 (bs.drop 0) = r at *
  split
  · intro _; rfl
  · rename_i h
    rcases ht with ⟨h1, h2, h3, h4⟩ | ⟨h1, _⟩
    · rcases lsF_told bs r.1 r.2.1 (by simp at h3; omega) with h5 | h5
      · intro h6; omega
      · intro _; exact h5.2.2
    · omega

end Go.Proofs.Ytgiepkiogjkjjaa
