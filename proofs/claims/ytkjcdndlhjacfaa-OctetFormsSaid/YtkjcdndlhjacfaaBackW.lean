/-
  OctetBack's walk, of arguments as they come in.
-/
import Derived.Test.YtkjcdndlhjacfaaBack
namespace Go.Proofs.Ytkjcdndlhjacfaa
open Go.RowKit

theorem nil_of_row {k : IntKind} {w : World} {a : Option Addr} {len cap : Nat} {zs : List Int} (h : IsRow k w a len cap zs) : a = none → cap = 0 := by
  intro ha
  rcases h with ⟨_, _, h, _⟩ | ⟨x, h, _⟩
  · exact h
  · rw [ha] at h; cases h

theorem readsI_of_row {w : World} {a : Option Addr} {len cap : Nat} {zs : List Int} (h : IsRow .i64 w a len cap zs) : ReadsI w a (zs.take len) ∧ (zs.take len).length = len ∧ ∀ x ∈ zs.take len, -9223372036854775808 ≤ x ∧ x ≤ 9223372036854775807 := by
  rcases h with ⟨rfl, rfl, rfl, rfl⟩ | ⟨x, rfl, hl, hm, hz, hc, hw⟩
  · exact ⟨.inl rfl, rfl, by simp⟩
  · refine ⟨?_, by simp; omega, fun y hy => int_range (hw y (List.mem_of_mem_take hy))⟩
    by_cases h0 : len = 0
    · subst h0; exact .inl rfl
    · obtain ⟨b, off, spot⟩ := x
      have hspot : spot = none := by simpa [Addr.add] using World.cell?_spot (hc 0 (by omega))
      subst hspot
      refine .inr ⟨b, off, rfl, fun i hi => ?_⟩
      have h1 : i < len := by simp at hi; omega
      have h2 := hc i (by omega)
      rw [Addr.add_lit] at h2
      rw [h2]
      simp [List.getD, h1]

theorem back_walk (a0 : Int) (a1 : ByteArray) (a2 : Option Addr) (len2 cap2 : Nat) (z2 : List Int) (a3 : Option Addr) (len3 cap3 : Nat) (z3 : List Int) (w : World)
    (w0 : (Lit.int .i64 a0).wf = true) (_w1 : a1.size ≤ maxLen) (_s1 : a1.size ≤ 140737488351232) (w2 : IsRow .i64 w a2 len2 cap2 z2) (s2 : cap2 * 8 ≤ 140737488351232) (w3 : IsRow .u8 w a3 len3 cap3 z3) (s3 : cap3 * 1 ≤ 140737488351232) :
    Calls Try.prog 7 #[.int .i64 a0, .string a1, .slice a2 len2 cap2, .slice a3 len3 cap3] w fun e w' => e = .returned (.bool true) ∧ Below w.heap.size w w' := by
  have h2 := readsI_of_row w2
  have hl : len2 ≤ cap2 := by rcases w2 with ⟨_, h, _⟩ | ⟨_, _, h, _⟩ <;> omega
  exact back_any a0 a1 a2 len2 cap2 (z2.take len2) a3 len3 cap3 (z3.take len3) w (int_range w0) h2.1 h2.2.1 (by omega) h2.2.2 (src_of_row w3 s3) (nil_of_row w3)

end Go.Proofs.Ytkjcdndlhjacfaa
