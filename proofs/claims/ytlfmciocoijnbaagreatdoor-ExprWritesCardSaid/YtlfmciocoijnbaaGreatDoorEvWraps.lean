/-
  The law ExprWraps: its walk.
-/
import Derived.Test.YtlfmciocoijnbaaGreatDoorEvForms
namespace Go.Proofs.YtlfmciocoijnbaaGreatDoor
open Go.RowKit

/-- What Read answers is a tree in memory, whichever. -/
def gxO : Option Ex → GX
  | some x => x.gx
  | none => .mk 0 0 [] 0 [] 0

theorem RD.gv {w : World} {lo : Nat} {v : EV} {R : Option Ex} (h : RD w lo v R) : GV w 0 w.heap.size (gxO R) v := by
  cases R with
  | some x => exact (show GV w lo w.heap.size x.gx v from h).mono (Nat.zero_le _) (Nat.le_refl _)
  | none =>
    have : v = ev0 := h
    subst this
    exact GV.leaf w 0 w.heap.size 0 0 0 0 ⟨#[]⟩

end Go.Proofs.YtlfmciocoijnbaaGreatDoor
