/-
  The law ExprBack: its walk.
-/
import Derived.Test.YtlfmciocoijnbaaGreatDoorEvForms
import Derived.Test.YtlfmciocoijnbaaGreatDoorEvO
namespace Go.Proofs.YtlfmciocoijnbaaGreatDoor
open Go.RowKit

theorem GX.txt_ne {x : GX} {e : Ex} (h : x.right = some e) : x.txt ≠ [] := by
  rw [GX.txt_some h]
  obtain ⟨a, r, hh, _⟩ := tx_Hd e (ex_some x e (GX.right_some h).1).1
  rw [hh]
  simp

theorem right_of {x : GX} {e : Ex} (h : x.right = some e) : e.fine ∧ e.nst ≤ 20 ∧ e.tx.length ≤ 16384 ∧ x.er = e.gx := by
  obtain ⟨h1, h2, h3⟩ := GX.right_some h
  obtain ⟨a, b, c⟩ := ex_some x e h1
  exact ⟨a, h2, h3, c⟩

theorem sm_back {x : GX} {e y : Ex} (hx : x.er = e.gx) (he : e.er = e) (h : y.er = e.er) : sm false x y.gx = true := by
  rw [sm_false, gx_er, hx, h, he]

end Go.Proofs.YtlfmciocoijnbaaGreatDoor
