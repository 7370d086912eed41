/-
  The program's evaluator: the value of any tree.
-/
import Derived.Test.YtcddbfdbhjkjgaaGreatDoorVaE
namespace Go.Proofs.YtcddbfdbhjkjgaaGreatDoor
open Go.RowKit
theorem ne_beq {k m : Int} (h : k ≠ m) : (k == m) = false := by simpa using h

end Go.Proofs.YtcddbfdbhjkjgaaGreatDoor
