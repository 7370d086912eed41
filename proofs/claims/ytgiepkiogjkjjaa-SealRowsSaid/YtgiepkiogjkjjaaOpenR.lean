/-
  What a law's walk is told of a slice of slices of bytes that came in.
-/
import Derived.Test.YtgiepkiogjkjjaaSBack
import Derived.Deep.Matrix
import Derived.SizedLaws
namespace Go.Proofs.Ytgiepkiogjkjjaa
open Go.RowKit Go.Deep Go.ChangeShapes Go.WideShapes

/-- A slice of slices that came in: it is nil; or it leads to 'cap' slices, each of which is a slice of bytes that came in, not greater than the reach. -/
def IsRows (w : World) (a : Option Addr) (len cap : Nat) (A : Nat → Option Addr) (L C : Nat → Nat) (Z : Nat → List Int) : Prop :=
  (a = none ∧ len = 0 ∧ cap = 0) ∨
  ∃ x, a = some x ∧ len ≤ cap ∧ cap ≤ maxLen ∧ ∀ r, r < cap → w.cell? (x.add r) = some (.slice (A r) (L r) (C r)) ∧ IsRow .u8 w (A r) (L r) (C r) (Z r) ∧ C r * 1 ≤ 140737488351232

theorem mem_weightsAll {H : Type} {P : Program} {e : TypeId} {d : DataW H} {n : Nat} (hn : n ∈ d.weights P e) : ∀ {ds : List (DataW H)}, d ∈ ds → n ∈ DataW.weightsAll P e ds
  | [], h => by cases h
  | d0 :: ds, h => by
    rw [DataW.weightsAll, List.mem_append]
    rcases List.mem_cons.1 h with rfl | h
    · exact .inl hn
    · exact .inr (mem_weightsAll hn h)

theorem rows_reach {H : Type} {ts : List TypeId} {ds : List (DataW H)} (hsz : (DataW.weightsEach Try.prog ts ds).all (· ≤ reachBytes) = true) {j len cap : Nat} {A : Nat → Option Addr} {L : Nat → Nat} {Z : Nat → List Int} (ht : ts[j]? = some 30)
    (hd : ds[j]? = some (.slice ((List.range len).map fun r => intRow .u8 (A r) (L r) (Z r)) ((List.range (cap - len)).map fun i => intRow .u8 (A (len + i)) (L (len + i)) (Z (len + i))))) (r : Nat) (hr : r < cap) (x : Addr) (hx : A r = some x) :
    (Z r).length * 1 ≤ 140737488351232 := by
  have hw : (Z r).length * 1 ∈ (intRow (H := H) .u8 (A r) (L r) (Z r)).weights Try.prog 22 := by
    rw [hx]
    simp only [intRow, DataW.weights, Try.underlying22]
    refine List.mem_cons.2 (.inl ?_)
    rw [show Try.prog.bytesOf 5 = 1 from by kernel_rfl]
    simp only [lits, List.length_map, List.length_take, List.length_drop]
    omega
  have hm : (Z r).length * 1 ∈ (DataW.slice ((List.range len).map fun r => intRow (H := H) .u8 (A r) (L r) (Z r)) ((List.range (cap - len)).map fun i => intRow .u8 (A (len + i)) (L (len + i)) (Z (len + i)))).weights Try.prog 30 := by
    simp only [DataW.weights, Try.underlying30]
    refine List.mem_cons.2 (.inr (List.mem_append.2 ?_))
    by_cases h : r < len
    · exact .inl (mem_weightsAll hw (List.mem_map.2 ⟨r, List.mem_range.2 h, rfl⟩))
    · refine .inr (mem_weightsAll hw (List.mem_map.2 ⟨r - len, List.mem_range.2 (by omega), ?_⟩))
      rw [show len + (r - len) = r by omega]
  have := List.all_eq_true.1 hsz _ (DataW.weights_mem_each ht hd _ hm)
  simpa [reachBytes] using this

theorem open_rows {H : Type} {enc : TypeId × Value → H} {W : World} {ts : List TypeId} {ds : List (DataW H)} (hsz : (DataW.weightsEach Try.prog ts ds).all (· ≤ reachBytes) = true) {j : Nat} (ht : ts[j]? = some 30)
    {a : Option Addr} {len cap : Nat} {d : DataW H} {p : List MemPlace} (hd : ds[j]? = some d) (h : DataW.Trod enc Try.prog W 0 (fun _ => true) true 30 (.slice a len cap) d p) :
    ∃ A L C Z, IsRows W a len cap A L C Z ∧ cap * 24 ≤ 140737488351232 := by
  obtain ⟨fuel, hf⟩ := h
  rcases open_int_rows Try.underlying30 Try.underlying22 Try.underlying5 (by kernel_rfl) (by kernel_rfl) hf with ⟨hcs, _⟩ | ⟨x, l, c, A, L, C, Z, hcs, _, hl, hm, hx, hrow⟩
  · simp [Value.cells] at hcs
    obtain ⟨rfl, rfl, rfl⟩ := hcs
    exact ⟨fun _ => none, fun _ => 0, fun _ => 0, fun _ => [], .inl ⟨rfl, rfl, rfl⟩, by omega⟩
  · simp [Value.cells] at hcs
    obtain ⟨rfl, rfl, rfl⟩ := hcs
    simp only [Prod.mk.injEq] at hx
    rw [hx.1] at hd
    have hb := sized_slice hsz ht hd Try.underlying30
    rw [show Try.prog.bytesOf 22 = 24 from by kernel_rfl] at hb
    simp only [List.length_map, List.length_range, reachBytes] at hb
    refine ⟨A, L, C, Z, .inr ⟨x, rfl, hl, hm, fun r hr => ?_⟩, by omega⟩
    obtain ⟨h1, h2, h3, h4, h5, h6, h7⟩ := hrow r hr
    cases hA : A r with
    | none =>
      have hc := h6 hA
      refine ⟨by rw [hA] at h1; exact h1, .inl ⟨rfl, by omega, hc, List.eq_nil_of_length_eq_zero (by omega)⟩, by omega⟩
    | some y =>
      refine ⟨by rw [hA] at h1; exact h1, .inr ⟨y, rfl, h2, h3, h4, fun i hi => (h7 y hA).2 i (by omega), h5⟩, ?_⟩
      have := rows_reach hsz ht hd r hr y hA
      omega

/-- The pieces of a slice of slices that came in. -/
def piecesOf (len : Nat) (A : Nat → Option Addr) (L C : Nat → Nat) (Z : Nat → List Int) : List Piece := (List.range len).map fun r => ⟨A r, L r, C r, (Z r).take (L r)⟩

theorem pieces_in {w : World} {a : Option Addr} {len cap : Nat} {A : Nat → Option Addr} {L C : Nat → Nat} {Z : Nat → List Int} (h : IsRows w a len cap A L C Z) :
    PartsIn w a (piecesOf len A L C Z) ∧ (∀ p ∈ piecesOf len A L C Z, p.a = none → p.cap = 0) ∧ (piecesOf len A L C Z).length = len := by
  refine ⟨⟨fun i p hp => ?_, fun p hp => ?_⟩, fun p hp => ?_, by simp [piecesOf]⟩
  · rcases h with ⟨rfl, rfl, rfl⟩ | ⟨x, rfl, hl, hm, hr⟩
    · simp [piecesOf] at hp
    · have hi : i < len := by
        have := (List.getElem?_eq_some_iff.1 hp).1
        simpa [piecesOf] using this
      have h1 := (hr i (by omega)).1
      simp only [piecesOf, List.getElem?_map, List.getElem?_range hi, Option.map_some, Option.some.injEq] at hp
      subst hp
      obtain ⟨b, off, spot⟩ := x
      have hspot : spot = none := by simpa [Addr.add] using World.cell?_spot (hr 0 (by omega)).1
      subst hspot
      refine ⟨b, off, rfl, ?_⟩
      rw [Addr.add_lit] at h1
      exact h1
  · obtain ⟨r, hr0, rfl⟩ := List.mem_map.1 hp
    rcases h with ⟨rfl, rfl, rfl⟩ | ⟨x, rfl, hl, hm, hr⟩
    · simp at hr0
    · have := hr r (by have := List.mem_range.1 hr0; omega)
      exact src_of_row this.2.1 this.2.2
  · obtain ⟨r, hr0, rfl⟩ := List.mem_map.1 hp
    rcases h with ⟨rfl, rfl, rfl⟩ | ⟨x, rfl, hl, hm, hr⟩
    · simp at hr0
    · have := hr r (by have := List.mem_range.1 hr0; omega)
      exact nil_of_row this.2.1

end Go.Proofs.Ytgiepkiogjkjjaa
