import Derived.Test.YtocecpghoncmgaaGreatDoorQh
import Derived.Test.YtocecpghoncmgaaGreatDoorCards
import Derived.ProofKit
import Derived.ChangeOld
import Derived.SevenTiedAt
set_option maxHeartbeats 12800000
set_option maxRecDepth 20000
namespace Go.Proofs.YtocecpghoncmgaaGreatDoor.lintWaits
open Go.ChangeShapes Go.WideShapes Go.ChangeAt Go.RowKit
theorem goes:false=Rows.lintWaitsRow.goesBy Tryz.pinned.checked.prog:=by kernel_rfl
end Go.Proofs.YtocecpghoncmgaaGreatDoor.lintWaits
