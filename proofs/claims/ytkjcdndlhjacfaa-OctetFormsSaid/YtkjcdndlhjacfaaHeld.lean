/-
  Regions that draw their order, with one call that makes memory: the condition on worlds may become a stronger one behind the call.
-/
import Derived.Test.YtkjcdndlhjacfaaRows0
import Derived.Deep.DeepCutAuto
import Derived.Deep.RegionHeld3
namespace Go.Proofs.Ytkjcdndlhjacfaa
open Go.RowKit

theorem held_strong {P : Program} {md : Region.Mode} {ops : Array Oper} {Q : Exit → Act → World → Prop} {S S2 : World → Prop} (himp : ∀ w, S2 w → S w) :
    ∀ (fuel : Nat) (listed : Array Bool) (a : Act) (w : World), wpAnyH P md ops Q S2 fuel listed a w → wpAnyH P md ops Q S fuel listed a w
  | 0, _, _, _, h => h
  | fuel + 1, _, _, _, h => ⟨h.1, fun i hi => wpOp_mono (fun a' w' h' => ⟨himp _ h'.1, held_strong himp fuel _ a' w' h'.2⟩) (h.2 i hi)⟩

end Go.Proofs.Ytkjcdndlhjacfaa
