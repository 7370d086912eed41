/-
  Whether two rows of tokens are the same.
  scan.Words.
  The small case of the laws of stage 4.
-/
import Derived.Test.YtcddbfdbhjkjgaaGreatDoorXB
import Derived.Laws.StructEq
import Derived.Deep.QuietTactic
import Derived.BigQuiet
import Derived.Test.YtcddbfdbhjkjgaaGreatDoorXA
import Derived.Deep.WholeRow
import Derived.Laws.Tables
namespace Go.Proofs.YtcddbfdbhjkjgaaGreatDoor
open Go.RowKit

/-- A slice that reads as tokens. -/
def TkSrc (w : World) (A : Option Addr) (n : Nat) (xs : List Tk) : Prop := xs.length = n ∧ ∀ (i : Nat) (t : Tk), xs[i]? = some t → ∃ g, A = some ⟨g, 0, none⟩ ∧
  w.cell? ⟨g, i * 4, none⟩ = some (.int .i64 t.kind) ∧ w.cell? ⟨g, i * 4 + 1, none⟩ = some (txV t.text) ∧ w.cell? ⟨g, i * 4 + 2, none⟩ = some (.int .i64 t.num) ∧ w.cell? ⟨g, i * 4 + 3, none⟩ = some (.int .i64 t.at_)

theorem tkCs_at : ∀ (xs : List Tk) (i : Nat) (t : Tk), xs[i]? = some t → (tkCs xs)[i * 4]? = some (.int .i64 t.kind) ∧ (tkCs xs)[i * 4 + 1]? = some (txV t.text) ∧ (tkCs xs)[i * 4 + 2]? = some (.int .i64 t.num) ∧ (tkCs xs)[i * 4 + 3]? = some (.int .i64 t.at_)
  | [], i, t, h => by simp at h
  | x :: xs, 0, t, h => by
    have : x = t := by simpa using h
    subst this
    simp [tkCs, tkC]
  | x :: xs, i + 1, t, h => by
    have ih := tkCs_at xs i t (by simpa using h)
    have e : tkCs (x :: xs) = tkC x ++ tkCs xs := by simp [tkCs]
    have e2 : ∀ j, (tkCs (x :: xs))[(i + 1) * 4 + j]? = (tkCs xs)[i * 4 + j]? := fun j => by
      rw [e, List.getElem?_append_right (by simp [tkC]; omega)]
      congr 1
      simp [tkC]
      omega
    refine ⟨?_, ?_, ?_, ?_⟩
    · have := e2 0; rw [Nat.add_zero, Nat.add_zero] at this; rw [this]; exact ih.1
    · rw [e2]; exact ih.2.1
    · rw [e2]; exact ih.2.2.1
    · rw [e2]; exact ih.2.2.2

/-- A row that the call owns is a slice, and reads as its tokens. -/
theorem TkRow.src {w : World} {B : Nat} {v : Value} {xs : List Tk} (h : TkRow w B v xs) : ∃ A c, v = .slice A xs.length c ∧ xs.length ≤ c ∧ c ≤ maxLen ∧ (A = none → c = 0) ∧ TkSrc w A xs.length xs := by
  rcases h.2 with ⟨rfl, h0⟩ | ⟨g, cap, cur, rfl, hb, hh, hc, hm, hs, ht⟩
  · refine ⟨none, 0, by rw [h0], by omega, by unfold maxLen; omega, fun _ => rfl, rfl, fun i t hi => ?_⟩
    have := (List.getElem?_eq_some_iff.1 hi).1
    omega
  · refine ⟨some ⟨g, 0, none⟩, cap, rfl, hc, hm, (fun h => nomatch h), rfl, fun i t hi => ⟨g, rfl, ?_⟩⟩
    have hl := (List.getElem?_eq_some_iff.1 hi).1
    have e : ∀ j u, j < 4 → (tkCs xs)[i * 4 + j]? = some u → w.cell? ⟨g, i * 4 + j, none⟩ = some u := fun j u hj hu => by
      rw [cell_of_row w g _ cur _ _ hh, ← hu, ← ht, List.getElem?_take, if_pos (by omega)]
      simp
    have hx := tkCs_at xs i t hi
    exact ⟨e 0 _ (by omega) hx.1, e 1 _ (by omega) hx.2.1, e 2 _ (by omega) hx.2.2.1, e 3 _ (by omega) hx.2.2.2⟩

theorem TkSrc.below {w w' : World} {A : Option Addr} {n : Nat} {xs : List Tk} (h : TkSrc w A n xs) (hb : Below w.heap.size w w') : TkSrc w' A n xs :=
  ⟨h.1, fun i t hi => by
    obtain ⟨g, e, h0, h1, h2, h3⟩ := h.2 i t hi
    exact ⟨g, e, by rw [hb.cell (World.block_lt_of_cell? w _ h0)]; exact h0, by rw [hb.cell (World.block_lt_of_cell? w _ h1)]; exact h1, by rw [hb.cell (World.block_lt_of_cell? w _ h2)]; exact h2, by rw [hb.cell (World.block_lt_of_cell? w _ h3)]; exact h3⟩⟩

theorem TkSrc.take {w : World} {A : Option Addr} {n : Nat} {xs : List Tk} (h : TkSrc w A n xs) {k : Nat} (hk : k ≤ n) : TkSrc w A k (xs.take k) :=
  ⟨by rw [List.length_take, h.1]; omega, fun i t hi => h.2 i t (by
    rw [List.getElem?_take] at hi
    split at hi
    · exact hi
    · cases hi)⟩

end Go.Proofs.YtcddbfdbhjkjgaaGreatDoor
