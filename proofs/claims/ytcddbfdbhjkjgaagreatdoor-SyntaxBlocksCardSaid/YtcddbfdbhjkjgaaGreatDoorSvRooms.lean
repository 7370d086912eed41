/-
  The law SyntaxRooms: its walk.
-/
import Derived.Test.YtcddbfdbhjkjgaaGreatDoorYF
import Derived.Test.YtcddbfdbhjkjgaaGreatDoorYA
import Derived.Test.YtcddbfdbhjkjgaaGreatDoorEpLaid
namespace Go.Proofs.YtcddbfdbhjkjgaaGreatDoor
open Go.RowKit

theorem syF_out (l : List UInt8) : syF l ≠ .out := by
  unfold syF
  split
  · exact syR_out _
  · intro h; cases h
theorem pair_chart (w : World) (y0 y1 y2 y3 y4 y5 y6 y7 y8 y9 : Value) (c p : Int) : ∃ (W : World) (g1 g2 : Nat), W = (w.alloc (.cells #[y0, y1, y2, y3, y4, y5, y6, y7, y8, y9] 30)).alloc (.cells #[.int .i64 c, .int .i64 p] 33) ∧
    g1 = w.heap.size ∧ g2 = w.heap.size + 1 ∧ Hid (CB W g1 30 [y0, y1, y2, y3, y4, y5, y6, y7, y8, y9]) ∧ Hid (FtB W g2 (.int .i64 c) (.int .i64 p)) ∧ Hid (Below w.heap.size w W) := by
  have e : (w.alloc (.cells #[y0, y1, y2, y3, y4, y5, y6, y7, y8, y9] 30)).heap.size = w.heap.size + 1 := by simp
  refine ⟨_, _, _, rfl, rfl, rfl, (CB.new w _ [y0, y1, y2, y3, y4, y5, y6, y7, y8, y9]).alloc _, ?_, ((Below.refl _ w).alloc (Nat.le_refl _) _).alloc (by omega) _⟩
  rw [← e]
  exact FtB.new _ _ _

end Go.Proofs.YtcddbfdbhjkjgaaGreatDoor
