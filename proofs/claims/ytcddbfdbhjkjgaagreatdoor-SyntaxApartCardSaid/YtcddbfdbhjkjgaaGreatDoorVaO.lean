/-
  What a law's walk is told of a slice of strings, of a slice of integers, that came in.
-/
import Derived.Test.YtcddbfdbhjkjgaaGreatDoorEvO
namespace Go.Proofs.YtcddbfdbhjkjgaaGreatDoor
open Go.RowKit Go.Deep Go.ChangeShapes Go.WideShapes

/-- A slice that reads as strings, wherever it begins. -/
def StrAt (w : World) (A : Option Addr) (xs : List ByteArray) : Prop := ∀ (i : Nat) (s : ByteArray), xs[i]? = some s → ∃ g o, A = some ⟨g, o, none⟩ ∧ g < w.heap.size ∧ w.cell? ⟨g, o + i, none⟩ = some (.string s)

/-- .. as integers. -/
def IntAt (w : World) (A : Option Addr) (xs : List Int) : Prop := ∀ (i : Nat) (n : Int), xs[i]? = some n → ∃ g o, A = some ⟨g, o, none⟩ ∧ g < w.heap.size ∧ w.cell? ⟨g, o + i, none⟩ = some (.int .i64 n)

theorem StrAt.below {w w' : World} {A : Option Addr} {xs : List ByteArray} (h : StrAt w A xs) (hb : Below w.heap.size w w') : StrAt w' A xs := fun i s hs => by
  obtain ⟨g, o, e, hg, hc⟩ := h i s hs
  exact ⟨g, o, e, Nat.lt_of_lt_of_le hg hb.size, by rw [hb.cell hg]; exact hc⟩
theorem IntAt.below {w w' : World} {A : Option Addr} {xs : List Int} (h : IntAt w A xs) (hb : Below w.heap.size w w') : IntAt w' A xs := fun i s hs => by
  obtain ⟨g, o, e, hg, hc⟩ := h i s hs
  exact ⟨g, o, e, Nat.lt_of_lt_of_le hg hb.size, by rw [hb.cell hg]; exact hc⟩

end Go.Proofs.YtcddbfdbhjkjgaaGreatDoor
