/-
  Copies of expressions: a row of expressions that the call makes.
-/
import Derived.Test.YthgodhojhajahaaGreatDoorEvO
import Derived.Test.YthgodhojhajahaaGreatDoorXB
import Derived.Maps.AppendAt
namespace Go.Proofs.YthgodhojhajahaaGreatDoor
open Go.RowKit

def evCs (vs : List EV) : List Value := vs.flatMap EV.cells
theorem evCs_len : ∀ vs : List EV, (evCs vs).length = vs.length * 6
  | [] => rfl
  | v :: vs => by
    have := evCs_len vs
    simp only [evCs, List.flatMap_cons, List.length_append, List.length_cons] at this ⊢
    rw [this]
    simp [EV.cells]
    omega
theorem evCs_snoc (vs : List EV) (v : EV) : evCs (vs ++ [v]) = evCs vs ++ v.cells := by simp [evCs]
theorem evCs_get : ∀ {vs : List EV} {i : Nat} {v : EV}, vs[i]? = some v → ∀ j u, v.cells[j]? = some u → (evCs vs)[i * 6 + j]? = some u
  | [], i, v, h, _, _, _ => by simp at h
  | x :: vs, 0, v, h, j, u, hu => by
    have : x = v := by simpa using h
    subst this
    have hj : j < x.cells.length := (List.getElem?_eq_some_iff.1 hu).1
    simp only [evCs, List.flatMap_cons, Nat.zero_mul, Nat.zero_add]
    rw [List.getElem?_append_left hj]
    exact hu
  | x :: vs, i + 1, v, h, j, u, hu => by
    have ih := evCs_get (vs := vs) (i := i) (v := v) (by simpa using h) j u hu
    have hl : x.cells.length = 6 := rfl
    simp only [evCs, List.flatMap_cons] at ih ⊢
    rw [List.getElem?_append_right (by rw [hl]; omega), hl, show (i + 1) * 6 + j - 6 = i * 6 + j from by omega]
    exact ih

/-- A row of expressions of the call's own. -/
def EvRow (w : World) (base : Nat) (v : Value) (vs : List EV) : Prop := w.ownsRow base 24 6 v vs.length (evCs vs)

theorem infoE : (Tryz.prog.info? 24).map (fun i => (i.zero, i.size, i.bytes)) = some (some (.agg #[.int .i64 0, .int .i64 0, .string ⟨#[]⟩, .int .i64 0, .slice none 0 0, .int .i64 0]), 6, 72) := by kernel_rfl

theorem wpl_append_ev {w : World} {ops : Array Oper} {rest : List Oper} {o : Oper} {a : Act} {Q : Exit → Act → World → Prop} (hgd : o.guard = none) (s x : Operand)
    (ho : o.op = .call { callee := .builtin .append, args := #[s, x], argTypes := #[22, 22] })
    (base : Nat) (v : Value) (vs : List EV) (hs : a.eval s = v) (hown : EvRow w base v vs) (u : EV)
    (hx : a.eval x = .slice (some ⟨w.heap.size, 0, none⟩) 1 1) (hn : (vs.length + 1) * 72 ≤ 140737488351232) (hbase : base ≤ w.heap.size)
    (h : ∀ v' w', EvRow w' base v' (vs ++ [u]) → (w.alloc (.cells #[.int .i64 u.kind, .int .i64 u.num, .string u.name, .int .i64 u.op, .slice u.A u.len u.cap, .int .i64 u.p] 24)).grownBy w' v.ownBlock →
      (v'.ownBlock = v.ownBlock ∨ v'.ownBlock = some (w.heap.size + 1)) → wpList Tryz.prog ops Q rest (a.put o.dst v') w') :
    wpList Tryz.prog ops Q (o :: rest) a (w.alloc (.cells #[.int .i64 u.kind, .int .i64 u.num, .string u.name, .int .i64 u.op, .slice u.A u.len u.cap, .int .i64 u.p] 24)) := by
  obtain ⟨i0, hi, hz0, hz1, hz2⟩ := info_parts infoE
  refine Go.wpList_append_own_at _ hgd s x 22 ho base 24 i0 (.agg #[.int .i64 0, .int .i64 0, .string ⟨#[]⟩, .int .i64 0, .slice none 0 0, .int .i64 0]) 6 72 Tryz.underlying22 hi hz0 hz1 hz2 rfl (by decide) v vs.length (evCs vs) hs (World.ownsRow.alloc hown _) ⟨w.heap.size, 0, none⟩ 1 1 u.cells hx rfl ?_ ?_ (by unfold maxLen; omega) (by omega) (by simp; omega) ?_
  · intro j y hy
    rw [Addr.add_mid, Nat.zero_add, cell_of_row _ _ _ _ _ _ (heap_alloc_new w _)]
    rw [← hy, EV.cells]
    simp
  · intro y hy
    simp only [EV.cells, List.mem_cons, List.not_mem_nil, or_false] at hy
    rcases hy with rfl | rfl | rfl | rfl | rfl | rfl <;> rfl
  · intro v' w' h1 h2 _ h4
    refine h v' w' ?_ h2 ?_
    · unfold EvRow
      rw [evCs_snoc, List.length_append]
      exact h1
    · rcases h4 with h4 | h4
      · exact .inl h4
      · exact .inr (by rw [h4]; simp)

/-- A tree whose parts are elsewhere than in a row's block. -/
def NXo (w : World) (lo : Nat) (r : Option Nat) (x : GX) (v : EV) : Prop := ∀ W' : World, (∀ i, lo ≤ i → i < w.heap.size → some i ≠ r → W'.heap[i]? = w.heap[i]?) → GV W' lo w.heap.size x v

theorem NXo.of {w : World} {lo lo' : Nat} {r : Option Nat} {x : GX} {v : EV} (h : GV w lo' w.heap.size x v) (hr : ∀ k, r = some k → k < lo') (hl : lo ≤ lo') : NXo w lo r x v := fun W' hs =>
  (h.same (fun i h1 h2 => hs i (by omega) h2 (fun e => by have := hr i e.symm; omega))).mono hl (Nat.le_refl _)
theorem NXo.gv {w : World} {lo : Nat} {r : Option Nat} {x : GX} {v : EV} (h : NXo w lo r x v) : GV w lo w.heap.size x v := h w (fun _ _ _ _ => rfl)
theorem NXo.below {w w' : World} {lo : Nat} {r : Option Nat} {x : GX} {v : EV} (h : NXo w lo r x v) (hb : Below w.heap.size w w') : NXo w' lo r x v := fun W' hs =>
  (h W' (fun i h1 h2 h3 => (hs i h1 (by have := hb.size; omega) h3).trans (hb.block i h2))).mono (Nat.le_refl _) hb.size
theorem NXo.grown {w w' : World} {lo : Nat} {r r' : Option Nat} {x : GX} {v : EV} (h : NXo w lo r x v) (hg : w.grownBy w' r) (hr : r' = r ∨ r' = some w.heap.size) : NXo w' lo r' x v := fun W' hs =>
  (h W' (fun i h1 h2 h3 => (hs i h1 (by have := World.grownBy.size hg; omega) (by
    rcases hr with rfl | rfl
    · exact h3
    · intro e; injection e with e; omega)).trans (hg.block i h2 h3))).mono (Nat.le_refl _) (World.grownBy.size hg)

/-- The copies so far. -/
def Cps (w : World) (lo : Nat) (v : Value) (xs : List GX) (vs : List EV) : Prop :=
  EvRow w lo v vs ∧ vs.length ≤ xs.length ∧ ∀ (j : Nat) (u : EV), vs[j]? = some u → ∃ x, xs[j]? = some x ∧ NXo w lo v.ownBlock x u

theorem Cps.below {w w' : World} {lo : Nat} {v : Value} {xs : List GX} {vs : List EV} (h : Cps w lo v xs vs) (hb : Below w.heap.size w w') : Cps w' lo v xs vs := by
  obtain ⟨h1, h2, h3⟩ := h
  refine ⟨⟨h1.1, ?_⟩, h2, fun j u hu => ?_⟩
  · rcases h1.2 with hh | ⟨g, cap, cur, a1, a2, a3, a4⟩
    · exact .inl hh
    · refine .inr ⟨g, cap, cur, a1, a2, (hb.block g ?_).trans a3, a4⟩
      exact (Array.getElem?_eq_some_iff.1 a3).1
  · obtain ⟨x, hx, hn⟩ := h3 j u hu
    exact ⟨x, hx, hn.below hb⟩

theorem Cps.lt {w : World} {lo : Nat} {v : Value} {xs : List GX} {vs : List EV} (h : Cps w lo v xs vs) : ∀ k, v.ownBlock = some k → lo ≤ k ∧ k < w.heap.size := World.ownsRow.lt h.1

theorem Cps.snoc {w w' : World} {lo : Nat} {v v' : Value} {xs : List GX} {vs : List EV} {x : GX} {u : EV} (h : Cps w lo v xs vs) (hx : xs[vs.length]? = some x) (hu : NXo w lo v.ownBlock x u) (ho : EvRow w' lo v' (vs ++ [u]))
    (hg : w.grownBy w' v.ownBlock) (hr : v'.ownBlock = v.ownBlock ∨ v'.ownBlock = some w.heap.size) : Cps w' lo v' xs (vs ++ [u]) := by
  refine ⟨ho, ?_, fun j z hz => ?_⟩
  · have := (List.getElem?_eq_some_iff.1 hx).1
    rw [List.length_append, List.length_singleton]
    omega
  · rcases Nat.lt_or_ge j vs.length with hj | hj
    · rw [List.getElem?_append_left hj] at hz
      obtain ⟨y, hy, hn⟩ := h.2.2 j z hz
      exact ⟨y, hy, hn.grown hg hr⟩
    · rw [List.getElem?_append_right hj] at hz
      have hlt : j - vs.length < [u].length := (List.getElem?_eq_some_iff.1 hz).1
      rw [List.length_singleton] at hlt
      have hj' : j = vs.length := by omega
      subst hj'
      rw [Nat.sub_self] at hz
      have : u = z := by simpa using hz
      subst this
      exact ⟨x, hx, hu.grown hg hr⟩

/-- All copies. -/
theorem Cps.row {w : World} {lo : Nat} {v : Value} {xs : List GX} {vs : List EV} (h : Cps w lo v xs vs) (hl : vs.length = xs.length) : ∃ A c, v = .slice A xs.length c ∧ xs.length ≤ c ∧ c ≤ maxLen ∧ GRow w lo w.heap.size xs A 0 := by
  obtain ⟨h1, h2, h3⟩ := h
  rcases h1.2 with ⟨hv, h0⟩ | ⟨g, cap, cur, hv, hb, hg, hnc, hcm, hcs, htk⟩
  · have e : xs = [] := List.eq_nil_of_length_eq_zero (by omega)
    subst e
    exact ⟨none, 0, hv, Nat.le_refl _, Nat.zero_le _, by unfold GRow; trivial⟩
  · have hown : v.ownBlock = some g := by rw [hv]; rfl
    refine ⟨some ⟨g, 0, none⟩, cap, by rw [hv, hl], by omega, hcm, GRow.of fun j x hx => ?_⟩
    have hj : j < vs.length := by rw [hl]; exact (List.getElem?_eq_some_iff.1 hx).1
    have hvj : vs[j]? = some vs[j] := List.getElem?_eq_getElem hj
    obtain ⟨y, hy, hn⟩ := h3 j _ hvj
    have : y = x := Option.some.inj (hy.symm.trans hx)
    subst this
    have hc := World.ownsRow.cells h1 hown
    have hcell : ∀ i z, vs[j].cells[i]? = some z → w.cell? ⟨g, 0 + (0 + j) * 6 + i, none⟩ = some z := fun i z hz => by
      have := hc _ z (evCs_get hvj i z hz)
      rw [Addr.add_lit] at this
      rw [show 0 + (0 + j) * 6 + i = 0 + (j * 6 + i) from by omega]
      exact this
    refine ⟨g, 0, vs[j], rfl, hb, ?_, ⟨hcell 0 _ rfl, hcell 1 _ rfl, hcell 2 _ rfl, hcell 3 _ rfl, hcell 4 _ rfl, hcell 5 _ rfl⟩, hn.gv⟩
    exact (Array.getElem?_eq_some_iff.1 hg).1

end Go.Proofs.YthgodhojhajahaaGreatDoor
