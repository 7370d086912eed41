import Derived.Lib.Hide
namespace Go.Proofs.YtocecpghoncmgaaGreatDoor
open Go.RowKit
theorem h_ {p : Prop} (h : p) : Hid p := h
theorem x_.{u} {α : Type u} {x : Option α} (h : x.isSome = true) : ∃ a, x = some a := Option.isSome_iff_exists.1 h
theorem t_.{u} {α : Type u} {l : List α} {i : Nat} : l.toArray[i]? = l[i]? := List.getElem?_toArray
theorem z_.{u} {α : Type u} {a : α} {l : List α} : (a :: l)[0]? = some a := List.getElem?_cons_zero
theorem s_.{u} {α : Type u} {a : α} {l : List α} {i : Nat} : (a :: l)[i + 1]? = l[i]? := List.getElem?_cons_succ
theorem j_.{u} {α : Type u} {a b : α} : (some a = some b) = (a = b) := Option.some.injEq a b
theorem u_.{u} {α : Type u} (l : List α) (i : Nat) (a : α) : l.toArray.setIfInBounds i a = (l.set i a).toArray := List.setIfInBounds_toArray l i a
theorem v_.{u} {α : Type u} {x : α} {xs : List α} {a : α} : (x :: xs).set 0 a = a :: xs := List.set_cons_zero
theorem k_.{u} {α : Type u} {x : α} {xs : List α} {i : Nat} {a : α} : (x :: xs).set (i + 1) a = x :: xs.set i a := List.set_cons_succ
theorem a_.{u} {α : Type u} (a b c : List α) : a ++ b ++ c = a ++ (b ++ c) := List.append_assoc a b c
theorem n_ (n : Nat) : n ≤ n := Nat.le_refl n
theorem b_ (B : Nat) (w : World) : Below B w w := Below.refl B w
end Go.Proofs.YtocecpghoncmgaaGreatDoor
