/-
  The law ExprForms: its walk.
-/
import Derived.Test.YtlfmciocoijnbaaGreatDoorEvR
import Derived.Test.YtlfmciocoijnbaaGreatDoorEwI
import Derived.Test.YtlfmciocoijnbaaGreatDoorEwJ
namespace Go.Proofs.YtlfmciocoijnbaaGreatDoor
open Go.RowKit

theorem ft_code {x : Option Ex} {l : List UInt8} {c p : Int} (h : rdR l = (x, c, p)) : (x = none ∧ (c == 0) = false ∧ (c != 0) = true) ∨ ∃ e, x = some e ∧ c = 0 ∧ p = 0 := by
  cases x with
  | none =>
    have := rd_none h
    exact .inl ⟨rfl, beq_eq_false_iff_ne.2 this, by simpa using this⟩
  | some e =>
    obtain ⟨h1, h2, _⟩ := rd_some h
    exact .inr ⟨e, rfl, h1, h2⟩

theorem sm_er {x y : Ex} (h : y.er = x.er) : sm false x.gx y.gx = true := by
  rw [sm_false, gx_er, gx_er, h]

theorem toL (l : List UInt8) : (⟨l.toArray⟩ : ByteArray).data.toList = l := rfl

end Go.Proofs.YtlfmciocoijnbaaGreatDoor
