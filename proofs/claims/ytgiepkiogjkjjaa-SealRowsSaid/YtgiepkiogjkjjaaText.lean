/-
  The decoder's text, and TakeText.
-/
import Derived.Test.YtgiepkiogjkjjaaTakes
import Derived.Laws.BytesArg
namespace Go.Proofs.Ytgiepkiogjkjjaa
open Go.RowKit

/-- A text at the front: its bytes, where it ends, what is wrong first. -/
def txF (at0 : Nat) (bs : List Int) : List Int × Nat × Int :=
  let r := szF 65535 at0 (bs.drop at0)
  if r.2.2 ≠ 0 then ([], 0, r.2.2) else if bs.length - r.2.1 < r.1 then ([], 0, 3) else ((bs.drop r.2.1).take r.1, r.2.1 + r.1, 0)

end Go.Proofs.Ytgiepkiogjkjjaa
