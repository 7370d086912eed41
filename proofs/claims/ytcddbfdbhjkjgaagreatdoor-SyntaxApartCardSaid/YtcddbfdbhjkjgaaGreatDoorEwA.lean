/-
  What the writer of expressions makes of any tree of data.
-/
import Derived.Test.YtcddbfdbhjkjgaaGreatDoorXE
namespace Go.Proofs.YtcddbfdbhjkjgaaGreatDoor

/-- How many nodes. -/
def Ex.size : Ex → Nat
  | .one _ x _ => 1 + x.size
  | .both _ x y => 1 + (x.size + y.size)
  | _ => 1

theorem Hd.len {t : List UInt8} (h : Hd t) : 1 ≤ t.length := by
  obtain ⟨c, r, rfl, _⟩ := h
  simp

/-- A node over what its parts are. -/
def node (k n : Int) (s : List UInt8) (o : Int) (l : List (Option Ex)) : Option Ex :=
  if k = 1 ∧ 0 ≤ n ∧ n ≤ 9223372036854775807 ∧ s = [] ∧ o = 0 ∧ l = [] then some (.int n 0)
  else if k = 2 ∧ n = 0 ∧ isNm s = true ∧ o = 0 ∧ l = [] then some (.var s 0)
  else if k = 3 ∧ n = 0 ∧ isNm s = true ∧ o = 0 ∧ l = [] then some (.inn s 0)
  else match l with
    | [some x] => if k = 4 ∧ n = 0 ∧ s = [] ∧ (o = 14 ∨ o = 15) then some (.one o x 0) else none
    | [some x, some y] => if k = 5 ∧ n = 0 ∧ s = [] ∧ rowOf o < 6 then some (.both o x y) else none
    | _ => none

mutual
/-- The right tree that a tree of data is, but for places. -/
def GX.ex : GX → Option Ex
  | .mk k n s o l _ => node k n s o (GX.exs l)
def GX.exs : List GX → List (Option Ex)
  | [] => []
  | x :: l => x.ex :: GX.exs l
end

end Go.Proofs.YtcddbfdbhjkjgaaGreatDoor
