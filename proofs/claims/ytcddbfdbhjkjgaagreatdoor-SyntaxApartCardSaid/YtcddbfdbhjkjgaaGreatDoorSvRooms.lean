/-
  The law SyntaxRooms: its walk.
-/
import Derived.Test.YtcddbfdbhjkjgaaGreatDoorYF
import Derived.Test.YtcddbfdbhjkjgaaGreatDoorYA
import Derived.Test.YtcddbfdbhjkjgaaGreatDoorEpLaid
namespace Go.Proofs.YtcddbfdbhjkjgaaGreatDoor
open Go.RowKit

theorem and_mask7 (a : Int) (m : Nat) (hm : m < 4611686018427387904) : ∃ n : Nat, n ≤ m ∧ bits .and .i64 a (m : Int) = (n : Int) := by
  refine ⟨(BitVec.ofInt 64 a).toNat &&& m, Nat.and_le_right, ?_⟩
  have h2 : (BitVec.ofInt 64 (m : Int)).toNat = m := by
    rw [BitVec.ofInt_natCast, BitVec.toNat_ofNat]; exact Nat.mod_eq_of_lt (by omega)
  have hle : (BitVec.ofInt 64 a).toNat &&& m ≤ m := Nat.and_le_right
  show IntKind.i64.wrap ((BitVec.ofInt 64 a &&& BitVec.ofInt 64 (m : Int)).toNat : Int) = _
  rw [BitVec.toNat_and, h2]
  exact Go.IntWalk.i64_in _ ⟨by omega, by omega⟩
theorem pair_chart (w : World) (y0 y1 y2 y3 y4 y5 y6 y7 y8 y9 : Value) (c p : Int) : ∃ (W : World) (g1 g2 : Nat), W = (w.alloc (.cells #[y0, y1, y2, y3, y4, y5, y6, y7, y8, y9] 30)).alloc (.cells #[.int .i64 c, .int .i64 p] 33) ∧
    g1 = w.heap.size ∧ g2 = w.heap.size + 1 ∧ Hid (CB W g1 30 [y0, y1, y2, y3, y4, y5, y6, y7, y8, y9]) ∧ Hid (FtB W g2 (.int .i64 c) (.int .i64 p)) ∧ Hid (Below w.heap.size w W) := by
  have e : (w.alloc (.cells #[y0, y1, y2, y3, y4, y5, y6, y7, y8, y9] 30)).heap.size = w.heap.size + 1 := by simp
  refine ⟨_, _, _, rfl, rfl, rfl, (CB.new w _ [y0, y1, y2, y3, y4, y5, y6, y7, y8, y9]).alloc _, ?_, ((Below.refl _ w).alloc (Nat.le_refl _) _).alloc (by omega) _⟩
  rw [← e]
  exact FtB.new _ _ _

end Go.Proofs.YtcddbfdbhjkjgaaGreatDoor
