/-
  OctetBack's walk, of arguments as they come in.
-/
import Derived.Test.YtgiepkiogjkjjaaBack
namespace Go.Proofs.Ytgiepkiogjkjjaa
open Go.RowKit

theorem nil_of_row {k : IntKind} {w : World} {a : Option Addr} {len cap : Nat} {zs : List Int} (h : IsRow k w a len cap zs) : a = none → cap = 0 := by
  intro ha
  rcases h with ⟨_, _, h, _⟩ | ⟨x, h, _⟩
  · exact h
  · rw [ha] at h; cases h

theorem readsI_of_row {w : World} {a : Option Addr} {len cap : Nat} {zs : List Int} (h : IsRow .i64 w a len cap zs) : ReadsI w a (zs.take len) ∧ (zs.take len).length = len ∧ ∀ x ∈ zs.take len, -9223372036854775808 ≤ x ∧ x ≤ 9223372036854775807 := by
  rcases h with ⟨rfl, rfl, rfl, rfl⟩ | ⟨x, rfl, hl, hm, hz, hc, hw⟩
  · exact ⟨.inl rfl, rfl, by simp⟩
  · refine ⟨?_, by simp; omega, fun y hy => int_range (hw y (List.mem_of_mem_take hy))⟩
    by_cases h0 : len = 0
    · subst h0; exact .inl rfl
    · obtain ⟨b, off, spot⟩ := x
      have hspot : spot = none := by simpa [Addr.add] using World.cell?_spot (hc 0 (by omega))
      subst hspot
      refine .inr ⟨b, off, rfl, fun i hi => ?_⟩
      have h1 : i < len := by simp at hi; omega
      have h2 := hc i (by omega)
      rw [Addr.add_lit] at h2
      rw [h2]
      simp [List.getD, h1]

end Go.Proofs.Ytgiepkiogjkjjaa
