/-
  The document's blanks.
  The document's signs.
  The document's token.
  The document's Tokens.
-/
import Derived.Test.YtcddbfdbhjkjgaaGreatDoorXB
namespace Go.Proofs.YtcddbfdbhjkjgaaGreatDoor
open Go.RowKit

theorem scA_skip (f p : Nat) (acc : List Tk) (l : List UInt8) : scA (f + 1) p acc l = scA (f + 1) (p + blK false l) acc (l.drop (blK false l)) := by
  have h := blK_rest false l
  rw [scA, scA]
  simp only [h, List.drop_zero, Nat.add_zero]

theorem tkS_pos2 {m : List UInt8} (h0 : m ≠ []) (h : tkE m = 0) : 0 < tkS m := by
  cases m with
  | nil => exact absurd rfl h0
  | cons c r => exact tkS_pos h

end Go.Proofs.YtcddbfdbhjkjgaaGreatDoor
