/-
  What a law's walk is told of an expression that came in.
-/
import Derived.Test.YtcddbfdbhjkjgaaGreatDoorEwS
import Derived.Deep.Slices
import Derived.SizedLaws
import Derived.OpenShut
namespace Go.Proofs.YtcddbfdbhjkjgaaGreatDoor
open Go.RowKit Go.Deep Go.ChangeShapes Go.WideShapes

theorem GRow.of {w : World} {lo hi : Nat} {A : Option Addr} : ∀ {l : List GX} {i : Nat}, (∀ (j : Nat) (x : GX), l[j]? = some x → ∃ g o v, A = some ⟨g, o, none⟩ ∧ lo ≤ g ∧ g < hi ∧ EvAt w g (o + (i + j) * 6) v ∧ GV w lo hi x v) → GRow w lo hi l A i
  | [], _, _ => by unfold GRow; trivial
  | x :: l, i, h => by
    unfold GRow
    refine ⟨by simpa using h 0 x rfl, GRow.of fun j y hy => ?_⟩
    have := h (j + 1) y (by simpa using hy)
    rw [show i + 1 + j = i + (j + 1) from by omega]
    exact this

mutual
/-- Its rows are no greater than memory. -/
def GX.fit : GX → Prop
  | .mk _ _ _ _ l _ => l.length * 72 ≤ 140737488351232 ∧ GX.fits l
def GX.fits : List GX → Prop
  | [] => True
  | x :: l => x.fit ∧ GX.fits l
end

instance : Inhabited GX := ⟨.mk 0 0 [] 0 [] 0⟩
instance : Inhabited EV := ⟨⟨0, 0, ⟨#[]⟩, 0, none, 0, 0, 0⟩⟩

end Go.Proofs.YtcddbfdbhjkjgaaGreatDoor
