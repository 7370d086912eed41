/-
  The small case of the laws of stage 4.
-/
import Derived.Test.YtkbfbcfgjgpfgaaDoorScSame
import Derived.Test.YtkbfbcfgjgpfgaaDoorScTok
namespace Go.Proofs.YtkbfbcfgjgpfgaaDoor
open Go.RowKit

/-- "set x1=-20;" -/
def smallS : List UInt8 := [115, 101, 116, 32, 120, 49, 61, 45, 50, 48, 59]

theorem smallF : scF smallS = ([⟨2, [115, 101, 116], 0, 0⟩, ⟨1, [120, 49], 0, 4⟩, ⟨4, [61], 0, 6⟩, ⟨4, [45], 0, 7⟩, ⟨3, [], 20, 8⟩, ⟨4, [59], 0, 10⟩, ⟨5, [], 0, 11⟩], 0, 0) := by decide +kernel

theorem heldF : Tryd.prog.stoodInHeld 26 = false := by kernel_rfl
theorem guardF : Tryd.prog.eqGuardType Tryd.prog.depth 26 = false := by kernel_rfl

set_option maxHeartbeats 800000 in
set_option maxRecDepth 20000 in
theorem ssm_any (w : World) (hK : KwAt w) (hE : ErrAt w) :
    Calls Tryd.prog 7 #[] w fun e w' => e = .returned (.bool true) ∧ Below w.heap.size w w' := by
  have HT := tokens_any w ⟨#[115, 101, 116, 32, 120, 49, 61, 45, 50, 48, 59]⟩ hK hE
  rw [show (⟨#[115, 101, 116, 32, 120, 49, 61, 45, 50, 48, 59]⟩ : ByteArray).data.toList = smallS from rfl, smallF] at HT
  have HTT := Lib.hid HT
  clear HT hK hE
  go_enter Tryd.func7, Tryd.ntmps7
  go_wp2_with fail
  refine HTT.out.mono ?_
  rintro e w1 ⟨v, rfl, hrow, hb⟩
  obtain ⟨A, c, rfl, hc1, hc2, _, hsrc⟩ := TkRow.src hrow
  have HB := Lib.hid hb
  have h0 := hsrc.2 0 _ rfl
  obtain ⟨g, rfl, a0, _⟩ := h0
  obtain ⟨_, e1, _, a1, _⟩ := hsrc.2 1 _ rfl
  obtain ⟨rfl⟩ := e1
  obtain ⟨_, e1, _, _, a4, _⟩ := hsrc.2 4 _ rfl
  obtain ⟨rfl⟩ := e1
  obtain ⟨_, e1, a6, _⟩ := hsrc.2 6 _ rfl
  obtain ⟨rfl⟩ := e1
  have b0 : ∀ o : Obj, (w1.alloc o).cell? ⟨g, 0, none⟩ = some (.int .i64 2) := fun o => by rw [World.cell?_alloc_lt _ _ _ (World.block_lt_of_cell? w1 _ a0)]; exact a0
  have b1 : ∀ o : Obj, (w1.alloc o).cell? ⟨g, 5, none⟩ = some (.string ⟨#[120, 49]⟩) := fun o => by rw [World.cell?_alloc_lt _ _ _ (World.block_lt_of_cell? w1 _ a1)]; exact a1
  have b4 : ∀ o : Obj, (w1.alloc o).cell? ⟨g, 18, none⟩ = some (.int .i64 20) := fun o => by rw [World.cell?_alloc_lt _ _ _ (World.block_lt_of_cell? w1 _ a4)]; exact a4
  have b6 : ∀ o : Obj, (w1.alloc o).cell? ⟨g, 24, none⟩ = some (.int .i64 5) := fun o => by rw [World.cell?_alloc_lt _ _ _ (World.block_lt_of_cell? w1 _ a6)]; exact a6
  have z1 := heldF
  have z2 := guardF
  clear hsrc hrow hb a0 a1 a4 a6
  go_wp2_with fail
  go_ret
  exact ⟨by simp, HB.out.alloc HB.out.size _⟩

end Go.Proofs.YtkbfbcfgjgpfgaaDoor
