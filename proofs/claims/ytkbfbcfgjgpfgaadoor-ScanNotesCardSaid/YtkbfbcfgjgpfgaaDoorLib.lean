/-
  strconv.Itoa and strconv.Atoi at this program, in the table and the variable as their initialisers lay them; calc.Text; calc.Parse's library part.
-/
import Derived.Test.YtkbfbcfgjgpfgaaDoorRows
import Derived.Test.YtkbfbcfgjgpfgaaDoorShelf
import Derived.WalkKit
import Derived.WalkSpells
import Derived.Lib.Hide
import Derived.Lib.LaidTab
import Derived.Stop.LaidErr
import Derived.WalkLawsBesides
namespace Go.Proofs.YtkbfbcfgjgpfgaaDoor
open Go.RowKit

/-- The powers of ten lie as the initialiser lays them. -/
def PowTab (w : World) : Prop := ∃ t fr, w.heap[4]? = some (.cells (Lib.pow10Tab.map fun z => Value.int .u64 z).toArray t fr)

theorem PowTab.below {w w' : World} (h : PowTab w) (hb : Below w.heap.size w w') : PowTab w' := by
  obtain ⟨t, fr, h⟩ := h
  refine ⟨t, fr, ?_⟩
  rw [hb.block _ ?_]
  · exact h
  · rcases Nat.lt_or_ge 4 w.heap.size with h' | h'
    · exact h'
    · rw [Array.getElem?_eq_none h'] at h; cases h

theorem grow_below (w : World) (k : Nat) (os : Array Obj) : Below w.heap.size w (Sort.grow (w.drewN k) os) where
  os := by induction k with | zero => rfl | succ k ih => exact ih
  tape := by induction k with | zero => rfl | succ k ih => exact ih
  output := by induction k with | zero => rfl | succ k ih => exact ih
  size := by simp
  block := fun k hk => by
    rw [Sort.heap_grow_old _ _ (by simpa using hk)]
    simp

theorem itoa_any (n : Int) (w : World) (h0 : -9223372036854775808 ≤ n) (h1 : n ≤ 9223372036854775807) (hT : PowTab w) :
    Calls Tryd.prog 58 #[.int .i64 n] w fun e w' => e = .returned (.string ⟨(Lib.itoa n).toArray⟩) ∧ Below w.heap.size w w' := by
  refine (Any.strconv_Itoa Tryd.laysM171 n h0 h1 w ?_).mono ?_
  · obtain ⟨t, fr, h⟩ := hT
    unfold Lib.TabIs World.var?
    rw [show Program.globalNamed Tryd.prog _ = some 4 from by kernel_rfl]
    simp only [Option.bind_some, h]
  · rintro e w' ⟨rfl, k, os, rfl⟩
    exact ⟨rfl, grow_below w k os⟩

/-- strconv.ErrRange holds some value of an interface type. -/
def ErrAt (w : World) : Prop := ∃ tp p, w.cell? ⟨3, 0, none⟩ = some (.iface tp p)

end Go.Proofs.YtkbfbcfgjgpfgaaDoor
