/-
  The document's evaluation: leaf.
-/
import Derived.Test.YtcddbfdbhjkjgaaGreatDoorVaF
import Derived.Test.YtcddbfdbhjkjgaaGreatDoorCA
import Derived.Deep.QuietTactic
import Derived.BigQuiet
import Derived.StillTailTactics
namespace Go.Proofs.YtcddbfdbhjkjgaaGreatDoor
open Go.RowKit

theorem drewN_below6 (w : World) (m : Nat) : Below w.heap.size w (w.drewN m) := ⟨rfl, rfl, rfl, Nat.le_refl _, fun _ _ => rfl⟩

end Go.Proofs.YtcddbfdbhjkjgaaGreatDoor
