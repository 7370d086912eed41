/-
  Text of calc and of the document; the small case of the laws.
-/
import Derived.Test.YtkbfbcfgjgpfgaaDoorRDig
import Derived.Test.YtkbfbcfgjgpfgaaDoorRDo
namespace Go.Proofs.YtkbfbcfgjgpfgaaDoor
open Go.RowKit
theorem itoa_neg {n : Int} (h : n < 0) : Lib.itoa n = 45 :: dec0 n.natAbs := by
  unfold Lib.itoa
  rw [if_pos h, dec0_pos (by omega)]

theorem itoa_pos {n : Int} (h : 0 < n) : Lib.itoa n = dec0 n.natAbs := by
  unfold Lib.itoa
  rw [if_neg (by omega), dec0_pos (by omega)]
  congr 1
  omega

end Go.Proofs.YtkbfbcfgjgpfgaaDoor
