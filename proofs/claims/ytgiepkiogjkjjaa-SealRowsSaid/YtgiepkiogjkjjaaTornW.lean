/-
  SealTorn's walk, of arguments as they come in.
-/
import Derived.Test.YtgiepkiogjkjjaaTorn
namespace Go.Proofs.Ytgiepkiogjkjjaa
open Go.RowKit

theorem rows_le {w : World} {a : Option Addr} {len cap : Nat} {A : Nat → Option Addr} {L C : Nat → Nat} {Z : Nat → List Int} (h : IsRows w a len cap A L C Z) : len ≤ cap := by
  rcases h with ⟨_, h, _⟩ | ⟨_, _, h, _⟩ <;> omega

theorem torn_walk (a0 : Option Addr) (len0 cap0 : Nat) (A0 : Nat → Option Addr) (L0 C0 : Nat → Nat) (Z0 : Nat → List Int) (a1 : Int) (w : World) (w0 : IsRows w a0 len0 cap0 A0 L0 C0 Z0) (s0 : cap0 * 24 ≤ 140737488351232) (w1 : (Lit.int .i64 a1).wf = true) :
    Calls Try.prog 7 #[.slice a0 len0 cap0, .int .i64 a1] w fun e w' => e = .returned (.bool true) ∧ Below w.heap.size w w' := by
  have hp := pieces_in w0
  have hl := rows_le w0
  exact torn_any w a0 len0 cap0 _ a1 hp.1 hp.2.1 hp.2.2 (int_range w1).2 (by omega)

end Go.Proofs.Ytgiepkiogjkjjaa
