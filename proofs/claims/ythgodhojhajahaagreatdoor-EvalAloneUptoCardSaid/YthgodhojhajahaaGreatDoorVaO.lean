/-
  What a law's walk is told of a slice of strings, of a slice of integers, that came in.
-/
import Derived.Test.YthgodhojhajahaaGreatDoorEvO
namespace Go.Proofs.YthgodhojhajahaaGreatDoor
open Go.RowKit Go.Deep Go.ChangeShapes Go.WideShapes

/-- A slice that reads as strings, wherever it begins. -/
def StrAt (w : World) (A : Option Addr) (xs : List ByteArray) : Prop := ∀ (i : Nat) (s : ByteArray), xs[i]? = some s → ∃ g o, A = some ⟨g, o, none⟩ ∧ g < w.heap.size ∧ w.cell? ⟨g, o + i, none⟩ = some (.string s)

/-- .. as integers. -/
def IntAt (w : World) (A : Option Addr) (xs : List Int) : Prop := ∀ (i : Nat) (n : Int), xs[i]? = some n → ∃ g o, A = some ⟨g, o, none⟩ ∧ g < w.heap.size ∧ w.cell? ⟨g, o + i, none⟩ = some (.int .i64 n)

theorem StrAt.below {w w' : World} {A : Option Addr} {xs : List ByteArray} (h : StrAt w A xs) (hb : Below w.heap.size w w') : StrAt w' A xs := fun i s hs => by
  obtain ⟨g, o, e, hg, hc⟩ := h i s hs
  exact ⟨g, o, e, Nat.lt_of_lt_of_le hg hb.size, by rw [hb.cell hg]; exact hc⟩
theorem IntAt.below {w w' : World} {A : Option Addr} {xs : List Int} (h : IntAt w A xs) (hb : Below w.heap.size w w') : IntAt w' A xs := fun i s hs => by
  obtain ⟨g, o, e, hg, hc⟩ := h i s hs
  exact ⟨g, o, e, Nat.lt_of_lt_of_le hg hb.size, by rw [hb.cell hg]; exact hc⟩

theorem spot_none {w : World} {a : Addr} {v : Value} (h : w.cell? (a.add 0) = some v) : a.spot = none := by
  have h0 := World.cell?_spot h
  simpa [Addr.add] using h0

theorem choose_list {α : Type} [Inhabited α] {n : Nat} {p : Nat → α → Prop} (h : ∀ i, i < n → ∃ x, p i x) : ∃ xs : List α, xs.length = n ∧ ∀ i x, xs[i]? = some x → p i x := by
  obtain ⟨f, hf⟩ := choose_lt h
  refine ⟨(List.range n).map f, by simp, fun i x hx => ?_⟩
  have hi : i < n := by
    have := (List.getElem?_eq_some_iff.1 hx).1
    simpa using this
  rw [List.getElem?_map, List.getElem?_range hi] at hx
  have : f i = x := by simpa using hx
  rw [← this]
  exact hf i hi

set_option maxRecDepth 20000 in
theorem open_strs {H : Type} {enc : TypeId × Value → H} {W : World} {fuel : Nat} {cs : List Value} {y : DataW H × List MemPlace} (h : DataW.trod enc Tryz.prog W 0 (fun _ => true) true fuel 25 cs = some y)
    (hw : ∀ m ∈ y.1.weights Tryz.prog 25, m ≤ 140737488351232) :
    ∃ (A : Option Addr) (len cap : Nat) (xs : List ByteArray), cs = [.slice A len cap] ∧ xs.length = len ∧ len ≤ cap ∧ cap ≤ maxLen ∧ len * 16 ≤ 140737488351232 ∧ StrAt W A xs ∧ ∀ s ∈ xs, s.size ≤ 140737488351232 := by
  have eS : Tryz.prog.cellsOf 9 = 1 := by kernel_rfl
  rcases DataW.trod_slice Tryz.underlying25 h with ⟨rfl, _⟩ | ⟨a, len, cap, elems, rest, n, _, rfl, rfl, _, hlc, hcm, hel, hi, _⟩
  · exact ⟨none, 0, 0, [], rfl, rfl, Nat.le_refl _, Nat.zero_le _, by omega, fun i s hs => by simp at hs, fun s hs => by cases hs⟩
  · have each : ∀ i, i < len → ∃ s : ByteArray, W.cell? (a.add i) = some (.string s) ∧ s.size ≤ 140737488351232 := by
      intro i hil
      have h := hi i hil
      rw [List.getElem?_eq_getElem (by omega), eS, Nat.mul_one] at h
      obtain ⟨cs', h1, h2⟩ := Option.bind_eq_some_iff.1 h
      obtain ⟨s, rfl, e2, _⟩ := DataW.trod_string Tryz.underlying9 h2
      obtain ⟨_, _, hc⟩ := World.cells?_some h1
      have hc0 := hc 0 (by omega)
      rw [add_add, Nat.add_zero] at hc0
      refine ⟨s, hc0, hw _ ?_⟩
      simp only [DataW.weights, Tryz.underlying25]
      refine List.mem_cons.2 (.inr (List.mem_append.2 (.inl (mem_weightsAll2 (d := (elems[i]'(by omega)).1) ?_ (List.mem_map.2 ⟨_, List.getElem_mem _, rfl⟩)))))
      rw [e2]
      simp only [DataW.weights]
      exact List.mem_singleton.2 rfl
    obtain ⟨xs, hxl, hx⟩ := choose_list each
    refine ⟨some a, len, cap, xs, rfl, hxl, hlc, hcm, ?_, fun i s hs => ?_, fun s hs => ?_⟩
    · refine Nat.le_trans (Nat.mul_le_mul_right 16 (Nat.le_add_right len rest.length)) (hw _ ?_)
      simp only [DataW.weights, Tryz.underlying25]
      refine List.mem_cons.2 (.inl ?_)
      rw [show Tryz.prog.bytesOf 9 = 16 from by kernel_rfl, List.length_map, List.length_map, hel]
    · have hlt := (List.getElem?_eq_some_iff.1 hs).1
      have hsp : a.spot = none := by
        obtain ⟨s0, hs0⟩ : ∃ s0, xs[0]? = some s0 := ⟨_, List.getElem?_eq_getElem (by omega)⟩
        exact spot_none (hx 0 s0 hs0).1
      obtain ⟨g, o, sp⟩ := a
      simp only at hsp
      subst hsp
      have hc := (hx i s hs).1
      rw [Addr.add_lit] at hc
      exact ⟨g, o, rfl, World.block_lt_of_cell? W _ hc, hc⟩
    · obtain ⟨i, hi'⟩ := List.getElem?_of_mem hs
      exact (hx i s hi').2

end Go.Proofs.YthgodhojhajahaaGreatDoor
