/-
  Charts in memory: a row's elements; a node's cells.
-/
import Derived.Test.YtcddbfdbhjkjgaaGreatDoorSeC
namespace Go.Proofs.YtcddbfdbhjkjgaaGreatDoor
open Go.RowKit

theorem DvsAt.elem {α : Type} {f : α → List DV} {k : Nat} (hk : ∀ a, (f a).length = k) {w : World} : ∀ {l : List α} {xs : List Value} {F : List Nat}, DvsAt w (l.flatMap f) xs F → ∀ {i : Nat} {a : α}, l[i]? = some a → ∃ ys F', DvsAt w (f a) ys F' ∧ ys.length = k ∧ ∀ j u, ys[j]? = some u → xs[i * k + j]? = some u
  | [], _, _, _, i, a, h => by simp at h
  | x :: l, xs, F, hd, i, a, h => by
    rw [List.flatMap_cons] at hd
    obtain ⟨xs1, xs2, F1, F2, rfl, _, h1, h2⟩ := hd.cut
    have hl : xs1.length = k := by rw [h1.len]; exact hk x
    match i, h with
    | 0, h =>
      obtain rfl : x = a := by simpa using h
      refine ⟨xs1, F1, h1, hl, fun j u hj => ?_⟩
      rw [Nat.zero_mul, Nat.zero_add, List.getElem?_append_left (List.getElem?_eq_some_iff.1 hj).1]
      exact hj
    | i + 1, h =>
      obtain ⟨ys, F', h3, h4, h5⟩ := DvsAt.elem hk h2 (i := i) (a := a) (by simpa using h)
      refine ⟨ys, F', h3, h4, fun j u hj => ?_⟩
      rw [List.getElem?_append_right (by rw [hl, Nat.succ_mul]; omega), hl, Nat.succ_mul, show i * k + k + j - k = i * k + j from by omega]
      exact h5 j u hj
/-- A row's element, as it is loaded. -/
theorem row_elem {α : Type} {f : α → List DV} {k : Nat} (hk : ∀ a, (f a).length = k) {w : World} {e : TypeId} {l : List α} {x : Value} {F : List Nat} (h : DvAt w (.row e k l.length (l.flatMap f)) x F) {i : Nat} {a : α} (hi : l[i]? = some a) :
    ∃ g c ys F', x = .slice (some ⟨g, 0, none⟩) l.length c ∧ l.length ≤ c ∧ c ≤ maxLen ∧ g < w.heap.size ∧ DvsAt w (f a) ys F' ∧ ys.length = k ∧ ∀ j u, ys[j]? = some u → w.cell? ⟨g, i * k + j, none⟩ = some u := by
  have hn : 0 < l.length := by have := (List.getElem?_eq_some_iff.1 hi).1; omega
  unfold DvAt at h
  obtain ⟨xs, H, ⟨h1, h2⟩, _, h3⟩ := h
  rcases h2 with ⟨_, h2⟩ | ⟨g, c, cur, hx, _, hg, hc1, hc2, hc3, hc4⟩
  · omega
  · obtain ⟨ys, F', h4, h5, h6⟩ := h3.elem hk hi
    refine ⟨g, c, ys, F', hx, hc1, hc2, (Array.getElem?_eq_some_iff.1 hg).1, h4, h5, fun j u hj => ?_⟩
    have h7 := h6 j u hj
    rw [cell_of_row w g _ _ _ _ hg]
    rw [← hc4, List.getElem?_take] at h7
    split at h7
    · simpa using h7
    · cases h7

/-- A node's cells. -/
theorem node_vals {w : World} {o : Bool} {k p : Int} {nm ini dft : List UInt8} {en le : List SyAct} {mo : List SyMove} {ks : List SyNode} {xs : List Value} {F : List Nat} (h : DvsAt w (dvNode o (.mk k nm ini dft en le mo ks p)) xs F) :
    ∃ (A1 A2 A3 A4 : Option Addr) (c1 c2 c3 c4 : Nat) (F1 F2 F3 F4 : List Nat), xs = [.int .i64 k, txV nm, txV ini, txV dft, .slice A1 en.length c1, .slice A2 le.length c2, .slice A3 mo.length c3, .slice A4 ks.length c4, .int .i64 p] ∧
      DvAt w (dvActs o en) (.slice A1 en.length c1) F1 ∧ DvAt w (dvActs o le) (.slice A2 le.length c2) F2 ∧ DvAt w (dvMoves o mo) (.slice A3 mo.length c3) F3 ∧ DvAt w (dvKids o ks) (.slice A4 ks.length c4) F4 := by
  rw [dvNode_mk] at h
  obtain ⟨x0, ys, _, _, rfl, d0, h⟩ := h.uncons
  obtain ⟨x1, ys, _, _, rfl, d1, h⟩ := h.uncons
  obtain ⟨x2, ys, _, _, rfl, d2, h⟩ := h.uncons
  obtain ⟨x3, ys, _, _, rfl, d3, h⟩ := h.uncons
  obtain ⟨x4, ys, F1, _, rfl, d4, h⟩ := h.uncons
  obtain ⟨x5, ys, F2, _, rfl, d5, h⟩ := h.uncons
  obtain ⟨x6, ys, F3, _, rfl, d6, h⟩ := h.uncons
  obtain ⟨x7, ys, F4, _, rfl, d7, h⟩ := h.uncons
  obtain ⟨x8, ys, _, _, rfl, d8, h⟩ := h.uncons
  unfold DvsAt at h
  obtain ⟨rfl, _⟩ := h
  obtain ⟨A1, c1, rfl, _⟩ := acts_slice d4
  obtain ⟨A2, c2, rfl, _⟩ := acts_slice d5
  obtain ⟨A3, c3, rfl, _⟩ := DvAt.slice (show DvAt w (.row _ 13 mo.length _) x6 F3 from d6)
  obtain ⟨A4, c4, rfl, _⟩ := DvAt.slice (show DvAt w (.row _ 9 ks.length _) x7 F4 from d7)
  exact ⟨A1, A2, A3, A4, c1, c2, c3, c4, F1, F2, F3, F4, by rw [d0.v, d1.v, d2.v, d3.v, d8.v], d4, d5, d6, d7⟩

end Go.Proofs.YtcddbfdbhjkjgaaGreatDoor
