/-
  The program's evaluator: an environment in memory, its variables and states, an expression's value.
-/
import Derived.Test.YtcddbfdbhjkjgaaGreatDoorXE
import Derived.Test.YtcddbfdbhjkjgaaGreatDoorCA
import Derived.Test.YtcddbfdbhjkjgaaGreatDoorVaO
import Derived.Test.YtcddbfdbhjkjgaaGreatDoorXF
import Derived.Lib.SlicesS
namespace Go.Proofs.YtcddbfdbhjkjgaaGreatDoor
open Go.RowKit

/-- An environment's three cells, as a value. -/
structure NV where
  nA : Option Addr
  nL : Nat
  nC : Nat
  mA : Option Addr
  mL : Nat
  mC : Nat
  aA : Option Addr
  aL : Nat
  aC : Nat

def NV.val (e : NV) : Value := .agg #[.slice e.nA e.nL e.nC, .slice e.mA e.mL e.mC, .slice e.aA e.aL e.aC]

/-- A value is that environment. -/
structure NvIs (w : World) (e : NV) (xs zs : List ByteArray) (ns : List Int) : Prop where
  nl : xs.length = e.nL
  ml : ns.length = e.mL
  al : zs.length = e.aL
  nc : e.nL ≤ e.nC ∧ e.nC ≤ maxLen
  mc : e.mL ≤ e.mC ∧ e.mC ≤ maxLen
  ac : e.aL ≤ e.aC ∧ e.aC ≤ maxLen
  nm : StrAt w e.nA xs
  ms : IntAt w e.mA ns
  as_ : StrAt w e.aA zs

theorem NvIs.below {w w' : World} {e : NV} {xs zs : List ByteArray} {ns : List Int} (h : NvIs w e xs zs ns) (hb : Below w.heap.size w w') : NvIs w' e xs zs ns :=
  ⟨h.nl, h.ml, h.al, h.nc, h.mc, h.ac, h.nm.below hb, h.ms.below hb, h.as_.below hb⟩

/-- Its block. -/
def EnB (T : TypeId) (w : World) (g : Nat) (e : NV) : Prop := w.heap[g]? = some (.cells #[.slice e.nA e.nL e.nC, .slice e.mA e.mL e.mC, .slice e.aA e.aL e.aC] T (0, 0))

section
variable {T : TypeId} {w w' : World} {g : Nat} {e : NV}
theorem EnB.lt (h : EnB T w g e) : g < w.heap.size := by
  rcases Nat.lt_or_ge g w.heap.size with hlt | hge
  · exact hlt
  · unfold EnB at h; rw [Array.getElem?_eq_none hge] at h; cases h
theorem EnB.c0 (h : EnB T w g e) : w.cell? ⟨g, 0, none⟩ = some (.slice e.nA e.nL e.nC) := cell_of_row w g 0 _ _ _ h
theorem EnB.c1 (h : EnB T w g e) : w.cell? ⟨g, 1, none⟩ = some (.slice e.mA e.mL e.mC) := cell_of_row w g 1 _ _ _ h
theorem EnB.c2 (h : EnB T w g e) : w.cell? ⟨g, 2, none⟩ = some (.slice e.aA e.aL e.aC) := cell_of_row w g 2 _ _ _ h
theorem EnB.fr (h : EnB T w g e) (i : Nat) : w.frozen? ⟨g, i, none⟩ = false := by
  unfold EnB at h
  simp [World.frozen?, h]
theorem EnB.below (h : EnB T w g e) (hb : Below w.heap.size w w') : EnB T w' g e := (hb.block g h.lt).trans h
theorem EnB.alloc (h : EnB T w g e) (o : Obj) : EnB T (w.alloc o) g e := (Below.heap_alloc w o g h.lt).trans h
theorem EnB.new (T : TypeId) (w : World) (e : NV) : EnB T (w.alloc (.cells #[.slice e.nA e.nL e.nC, .slice e.mA e.mL e.mC, .slice e.aA e.aL e.aC] T)) w.heap.size e := heap_alloc_new w _
end

theorem barr_inj {s t : ByteArray} (h : s.data.toList = t.data.toList) : s = t := by
  cases s; cases t
  simp only at h
  rw [Array.toList_inj.1 h]

end Go.Proofs.YtcddbfdbhjkjgaaGreatDoor
