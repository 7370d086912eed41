/-
  Rows of strings, of integers, that the call makes: appends onto a row of its own that is full.
-/
import Derived.Test.YtcddbfdbhjkjgaaGreatDoorVaR
import Derived.Test.YtcddbfdbhjkjgaaGreatDoorEvO
import Derived.Deep.RegionHeld3
import Derived.Laws.OwnMore
import Derived.Laws.AppendOwnNone
import Derived.ArgAppend
import Derived.Maps.AppendAt
import Derived.Deep.RegionLawGrows
namespace Go.Proofs.YtcddbfdbhjkjgaaGreatDoor
open Go.RowKit

/-- Cells lie there. -/
def CellsAt (w : World) (A : Option Addr) (news : List Value) : Prop := ∀ (j : Nat) (u : Value), news[j]? = some u → ∃ g o, A = some ⟨g, o, none⟩ ∧ w.cell? ⟨g, o + j, none⟩ = some u

/-- A row of the call's own that is full. -/
def FullAt (w : World) (e : TypeId) (g : Nat) (olds : List Value) : Prop := w.heap[g]? = some (.cells olds.toArray e (0, 0))

theorem FullAt.below {w w' : World} {e : TypeId} {g : Nat} {olds : List Value} (h : FullAt w e g olds) (hb : Below w.heap.size w w') : FullAt w' e g olds := (hb.block g (Array.getElem?_eq_some_iff.1 h).1).trans h

/-- A row of strings of the call's own. -/
def StRow (w : World) (base : Nat) (v : Value) (xs : List ByteArray) : Prop := w.ownsRow base 9 1 v xs.length (xs.map .string)
/-- .. of integers. -/
def InRow (w : World) (base : Nat) (v : Value) (xs : List Int) : Prop := w.ownsRow base 3 1 v xs.length (xs.map (.int .i64))

theorem ownsRow_below {w w' : World} {base : Nat} {e : TypeId} {s : Nat} {v : Value} {n : Nat} {xs : List Value} (h : w.ownsRow base e s v n xs) (hb : Below w.heap.size w w') : w'.ownsRow base e s v n xs := by
  refine ⟨h.1, ?_⟩
  rcases h.2 with h2 | ⟨g, cap, cur, a1, a2, a3, a4⟩
  · exact .inl h2
  · exact .inr ⟨g, cap, cur, a1, a2, (hb.block g (Array.getElem?_eq_some_iff.1 a3).1).trans a3, a4⟩
theorem StRow.below {w w' : World} {base : Nat} {v : Value} {xs : List ByteArray} (h : StRow w base v xs) (hb : Below w.heap.size w w') : StRow w' base v xs := ownsRow_below h hb
theorem InRow.below {w w' : World} {base : Nat} {v : Value} {xs : List Int} (h : InRow w base v xs) (hb : Below w.heap.size w w') : InRow w' base v xs := ownsRow_below h hb

theorem StrAt.cells {w : World} {A : Option Addr} {xs : List ByteArray} (h : StrAt w A xs) : CellsAt w A (xs.map .string) := fun j u hu => by
  rw [List.getElem?_map] at hu
  obtain ⟨s, hs, rfl⟩ := Option.map_eq_some_iff.1 hu
  obtain ⟨g, o, e, _, hc⟩ := h j s hs
  exact ⟨g, o, e, hc⟩
theorem IntAt.cells {w : World} {A : Option Addr} {xs : List Int} (h : IntAt w A xs) : CellsAt w A (xs.map (.int .i64)) := fun j u hu => by
  rw [List.getElem?_map] at hu
  obtain ⟨s, hs, rfl⟩ := Option.map_eq_some_iff.1 hu
  obtain ⟨g, o, e, _, hc⟩ := h j s hs
  exact ⟨g, o, e, hc⟩

end Go.Proofs.YtcddbfdbhjkjgaaGreatDoor
