import Derived.Test.YtocecpghoncmgaaGreatDoorQh
import Derived.Test.YtocecpghoncmgaaGreatDoorCards
import Derived.ProofKit
import Derived.ChangeOld
import Derived.SevenTiedAt
set_option maxHeartbeats 12800000
set_option maxRecDepth 20000
namespace Go.Proofs.YtocecpghoncmgaaGreatDoor.lintWaits
open Go.ChangeShapes Go.WideShapes Go.ChangeAt Go.RowKit
theorem laidOut:laidOutB Tryz.prog=true:=by kernel_rfl
theorem jp1:(Rows.lintWaitsRow.inPlace==Tryz.pinned.checked.prog.inPlace 8)=true:=by kernel_rfl
theorem jp2:(Rows.lintWaitsRow.unfollowed==Tryz.pinned.checked.prog.unfollowed 8)=true:=by kernel_rfl
theorem jp3:(Rows.lintWaitsRow.recurses==Tryz.pinned.checked.prog.recurses 8)=true:=by kernel_rfl
theorem jp4:(Rows.lintWaitsRow.named==Tryz.pinned.checked.prog.varsNamed 8)=true:=by kernel_rfl
theorem jp5:laidOutB Tryz.pinned.checked.prog=true:=laidOut
theorem joined:joinedFacts Tryz.pinned.checked.prog 8 Tryz.f8 Rows.lintWaitsSpec Rows.lintWaitsRow=true:=by
 unfold joinedFacts;rw [jp1,jp2,jp3,jp4,jp5]
 kernel_rfl
end Go.Proofs.YtocecpghoncmgaaGreatDoor.lintWaits
