/-
  An environment that the call makes of rows of its own, and a state more.
-/
import Derived.Test.YthgodhojhajahaaGreatDoorVaNames
import Derived.Test.YthgodhojhajahaaGreatDoorVaTells
namespace Go.Proofs.YthgodhojhajahaaGreatDoor
open Go.RowKit

/-- append(full row, news..): the row itself, or a new one. -/
theorem run_app2 {P : Program} {w : World} (t ty e : TypeId) (i : TypeInfo) (z : Value) (bytes : Nat) (h1 : P.underlying t = some (.slice e)) (h2 : P.info? e = some i) (h3 : i.zero = some z) (h4 : i.size = 1) (h5 : i.bytes = bytes) (h6 : z.cells.size = 1)
    (g k : Nat) (olds : List Value) (hk : olds.length = k) (hf : FullAt w e g olds) (A : Option Addr) (m c : Nat) (news : List Value) (hm : news.length = m) (hn : CellsAt w A news) (ho : ∀ u ∈ news, u.oneCell' = true)
    (b1 : k + m ≤ maxLen) (b2 : (k + m) * bytes ≤ 140737488355328) (base : Nat) (hb : base ≤ g) (hbw : base ≤ w.heap.size) :
    ∃ v' w', (Builtin.append_ #[t, t] ty #[.slice (some ⟨g, 0, none⟩) k k, .slice A m c]).run P w = .ok v' w' ∧ w'.ownsRow base e 1 v' (k + m) (olds ++ news) ∧ Below w.heap.size w w' ∧ (v' = .slice (some ⟨g, 0, none⟩) k k ∨ ∀ q, v'.ownBlock = some q → w.heap.size ≤ q) := by
  by_cases h0 : m = 0
  · subst h0
    obtain rfl : news = [] := List.eq_nil_of_length_eq_zero hm
    refine ⟨_, w, run_append_zero t ty e i h1 h2 _ k k (Nat.le_refl _) A c, ?_, Below.refl _ w, .inl rfl⟩
    rw [List.append_nil, Nat.add_zero]
    refine ⟨by rw [Nat.mul_one]; exact hk, .inr ⟨g, k, olds.toArray, rfl, hb, hf, Nat.le_refl _, by omega, by rw [Nat.mul_one]; simpa using hk, ?_⟩⟩
    rw [Nat.mul_one]
    exact List.take_of_length_le (by rw [hk]; exact Nat.le_refl _)
  · obtain ⟨u, hu⟩ : ∃ u, news[0]? = some u := ⟨_, List.getElem?_eq_getElem (by omega)⟩
    obtain ⟨gg, o, rfl, _⟩ := hn 0 u hu
    obtain ⟨v', w', hr, r1, r2⟩ := run_append_arg_grows (P := P) (w := w) t ty e i z 1 bytes h1 h2 h3 h4 h5 h6 (by omega) ⟨g, 0, none⟩ k k olds (by rw [hk, Nat.mul_one]) (fun j u hu => by
        rw [Addr.add_lit, Nat.zero_add, cell_of_row _ _ _ _ _ _ hf]
        simpa using hu) ⟨gg, o, none⟩ m c news (by rw [hm, Nat.mul_one]) (fun j u hu => by
        obtain ⟨g2, o2, e2, hc⟩ := hn j u hu
        injection e2 with e2
        injection e2 with e3 e4
        subst e3 e4
        rw [Addr.add_lit]
        exact hc) (by omega) b1 b2
    refine ⟨v', w', hr, ⟨r1.1, ?_⟩, below_of_grown r2, .inr fun q hq => (World.ownsRow.lt r1 q hq).1⟩
    rcases r1.2 with r | ⟨g', cap, cur, r3, r4, r5⟩
    · exact .inl r
    · exact .inr ⟨g', cap, cur, r3, by omega, r5⟩

theorem run_app_str2 {w : World} (ty : TypeId) (g k : Nat) (olds : List ByteArray) (hk : olds.length = k) (hf : FullAt w 9 g (olds.map .string)) (A : Option Addr) (m c : Nat) (xs : List ByteArray) (hm : xs.length = m) (hx : StrAt w A xs) (b2 : (k + m) * 16 ≤ 140737488355328) (base : Nat) (hb : base ≤ g) :
    ∃ v' w', (Builtin.append_ #[25, 25] ty #[.slice (some ⟨g, 0, none⟩) k k, .slice A m c]).run Tryz.prog w = .ok v' w' ∧ StRow w' base v' (olds ++ xs) ∧ Below w.heap.size w w' ∧ (v' = .slice (some ⟨g, 0, none⟩) k k ∨ ∀ q, v'.ownBlock = some q → w.heap.size ≤ q) := by
  obtain ⟨i0, hi, hz0, hz1, hz2⟩ := info_parts infoStr
  have hg : g < w.heap.size := (Array.getElem?_eq_some_iff.1 hf).1
  obtain ⟨v', w', h1, h2, h3, h4⟩ := run_app2 (P := Tryz.prog) (w := w) 25 ty 9 i0 (.string ⟨#[]⟩) 16 Tryz.underlying25 hi hz0 hz1 hz2 rfl g k (olds.map .string) (by simpa using hk) hf A m c (xs.map .string) (by simpa using hm) hx.cells
    (fun u hu => by obtain ⟨s, _, rfl⟩ := List.mem_map.1 hu; rfl) (by unfold maxLen; omega) b2 base hb (by omega)
  refine ⟨v', w', h1, ?_, h3, h4⟩
  unfold StRow
  rw [List.map_append, List.length_append, hk, hm]
  exact h2

/-- Apart from one another, or the second has no room. -/
def Ap (u v : Value) : Prop := (∀ k, u.ownBlock = some k → v.ownBlock ≠ some k) ∨ ∃ g, v = .slice (some ⟨g, 0, none⟩) 0 0

/-- An environment of rows of the call's own. -/
structure MoreAt (w : World) (B g : Nat) (e : NV) (N : List ByteArray) (M : List Int) (Z : List ByteArray) : Prop where
  en : EnB 28 w g e
  gb : B ≤ g
  rn : StRow w B (.slice e.nA e.nL e.nC) N
  rm : InRow w B (.slice e.mA e.mL e.mC) M
  ra : StRow w B (.slice e.aA e.aL e.aC) Z
  ap : Ap (.slice e.nA e.nL e.nC) (.slice e.aA e.aL e.aC)

theorem MoreAt.env {w : World} {B g : Nat} {e : NV} {N : List ByteArray} {M : List Int} {Z : List ByteArray} (h : MoreAt w B g e N M Z) : NvIs w e N Z M := by
  obtain ⟨A1, c1, e1, p1, p2, p3, _⟩ := h.rn.str
  obtain ⟨A2, c2, e2, q1, q2, q3, _⟩ := h.rm.ints
  obtain ⟨A3, c3, e3, r1, r2, r3, _⟩ := h.ra.str
  injection e1 with a1 a2 a3
  injection e2 with b1 b2 b3
  injection e3 with d1 d2 d3
  exact ⟨a2.symm, b2.symm, d2.symm, ⟨by rw [a2, a3]; exact p1, by rw [a3]; exact p2⟩, ⟨by rw [b2, b3]; exact q1, by rw [b3]; exact q2⟩, ⟨by rw [d2, d3]; exact r1, by rw [d3]; exact r2⟩, by rw [a1]; exact p3, by rw [b1]; exact q3, by rw [d1]; exact r3⟩

theorem MoreAt.below {w w' : World} {B g : Nat} {e : NV} {N : List ByteArray} {M : List Int} {Z : List ByteArray} (h : MoreAt w B g e N M Z) (hb : Below w.heap.size w w') : MoreAt w' B g e N M Z :=
  ⟨h.en.below hb, h.gb, h.rn.below hb, h.rm.below hb, h.ra.below hb, h.ap⟩

theorem row_tag {w : World} {B g : Nat} {v : Value} {xs : List ByteArray} {e : NV} (h : StRow w B v xs) (he : EnB 28 w g e) : ∀ k, v.ownBlock = some k → k ≠ g := fun k hk hkg => by
  rcases h.2 with ⟨hv, _⟩ | ⟨q, cap, cur, hv, _, hq, _⟩
  · rw [hv] at hk; cases hk
  · rw [hv] at hk
    injection hk with hk
    have hk' : q = k := hk
    subst hk' hkg
    unfold EnB at he
    rw [hq] at he
    injection he with he
    injection he with _ ht
    exact absurd ht (by decide)
theorem int_tag {w : World} {B g : Nat} {v : Value} {xs : List Int} {e : NV} (h : InRow w B v xs) (he : EnB 28 w g e) : ∀ k, v.ownBlock = some k → k ≠ g := fun k hk hkg => by
  rcases h.2 with ⟨hv, _⟩ | ⟨q, cap, cur, hv, _, hq, _⟩
  · rw [hv] at hk; cases hk
  · rw [hv] at hk
    injection hk with hk
    have hk' : q = k := hk
    subst hk' hkg
    unfold EnB at he
    rw [hq] at he
    injection he with he
    injection he with _ ht
    exact absurd ht (by decide)

theorem ownsRow_kept {w w' : World} {base : Nat} {e : TypeId} {v : Value} {n : Nat} {xs : List Value} (h : w.ownsRow base e 1 v n xs) (hk : ∀ k, v.ownBlock = some k → w'.heap[k]? = w.heap[k]?) : w'.ownsRow base e 1 v n xs := by
  refine ⟨h.1, ?_⟩
  rcases h.2 with h2 | ⟨k, cap, cur, a1, a2, a3, a4⟩
  · exact .inl h2
  · exact .inr ⟨k, cap, cur, a1, a2, (hk k (by rw [a1]; rfl)).trans a3, a4⟩

/-- The environment's block is written. -/
theorem more_store {w : World} {B g : Nat} {e0 e : NV} {N : List ByteArray} {M : List Int} {Z : List ByteArray} (he : EnB 28 w g e0) (hg : B ≤ g) (rn : StRow w B (.slice e.nA e.nL e.nC) N) (rm : InRow w B (.slice e.mA e.mL e.mC) M) (ra : StRow w B (.slice e.aA e.aL e.aC) Z) (ap : Ap (.slice e.nA e.nL e.nC) (.slice e.aA e.aL e.aC)) :
    MoreAt (set3 w g e) B g e N M Z := by
  have h0 := heap_setCell_same w g 0 _ _ (.slice e.nA e.nL e.nC) he
  have h1 := heap_setCell_same _ g 1 _ _ (.slice e.mA e.mL e.mC) h0
  have h2 := heap_setCell_same _ g 2 _ _ (.slice e.aA e.aL e.aC) h1
  exact ⟨h2, hg, ownsRow_kept rn (fun k hk => set3_other w g e k (row_tag rn he k hk)), ownsRow_kept rm (fun k hk => set3_other w g e k (int_tag rm he k hk)), ownsRow_kept ra (fun k hk => set3_other w g e k (row_tag ra he k hk)), ap⟩

theorem int_str_apart {w : World} {B C k : Nat} {u v : Value} {xs : List Int} {ys : List ByteArray} (h : InRow w B u xs) (h' : StRow w C v ys) (hu : u.ownBlock = some k) : v.ownBlock ≠ some k := fun hv => by
  rcases h.2 with ⟨e, _⟩ | ⟨q, _, _, e, _, hq, _⟩
  · rw [e] at hu; cases hu
  · rcases h'.2 with ⟨e', _⟩ | ⟨q', _, _, e', _, hq', _⟩
    · rw [e'] at hv; cases hv
    · rw [e] at hu
      rw [e'] at hv
      injection hu with hu
      injection hv with hv
      have e1 : q = k := hu
      have e2 : q' = k := hv
      subst e1 e2
      rw [hq] at hq'
      injection hq' with hh
      injection hh with _ ht
      exact absurd ht (by decide)

set_option maxRecDepth 20000 in
/-- A state more. -/
theorem more_state {w : World} {B g : Nat} {e : NV} {N : List ByteArray} {M : List Int} {Z : List ByteArray} (h : MoreAt w B g e N M Z) (hB : B ≤ w.heap.size) (s : ByteArray) (hl : (e.aL + 1) * 16 ≤ 140737488355328) (ty : TypeId) :
    ∃ v' w', (Builtin.append_ #[25, 25] ty #[.slice e.aA e.aL e.aC, .slice (some ⟨w.heap.size, 0, none⟩) 1 1]).run Tryz.prog (w.alloc (.cells #[.string s] 9)) = .ok v' w' ∧
      w'.cell? ⟨g, 2, none⟩ = some (.slice e.aA e.aL e.aC) ∧ w'.frozen? ⟨g, 2, none⟩ = false ∧ ∃ A c, v' = .slice A (e.aL + 1) c ∧ MoreAt (w'.setCell ⟨g, 2, none⟩ (.slice A (e.aL + 1) c)) B g ⟨e.nA, e.nL, e.nC, e.mA, e.mL, e.mC, A, e.aL + 1, c⟩ N M (Z ++ [s]) ∧ Below B w (w'.setCell ⟨g, 2, none⟩ (.slice A (e.aL + 1) c)) := by
  have ha : Below w.heap.size w (w.alloc (.cells #[.string s] 9)) := (Below.refl _ w).alloc (Nat.le_refl _) _
  have h1 := h.below ha
  have hsz := ha.size
  have hzl : Z.length = e.aL := h.env.al
  have hx : StrAt (w.alloc (.cells #[.string s] 9)) (some ⟨w.heap.size, 0, none⟩) [s] := fun i u hu => by
    match i, hu with
    | 0, hu =>
      injection hu with hu
      subst hu
      refine ⟨w.heap.size, 0, rfl, by simp, ?_⟩
      rw [cell_of_row _ _ _ _ _ _ (heap_alloc_new w _)]
      rfl
  have fin : ∀ (v' : Value) (w' : World), StRow w' B v' (Z ++ [s]) → EnB 28 w' g e → StRow w' B (.slice e.nA e.nL e.nC) N → InRow w' B (.slice e.mA e.mL e.mC) M → Below B w w' → Ap (.slice e.nA e.nL e.nC) v' →
      w'.cell? ⟨g, 2, none⟩ = some (.slice e.aA e.aL e.aC) ∧ w'.frozen? ⟨g, 2, none⟩ = false ∧ ∃ A c, v' = .slice A (e.aL + 1) c ∧ MoreAt (w'.setCell ⟨g, 2, none⟩ (.slice A (e.aL + 1) c)) B g ⟨e.nA, e.nL, e.nC, e.mA, e.mL, e.mC, A, e.aL + 1, c⟩ N M (Z ++ [s]) ∧ Below B w (w'.setCell ⟨g, 2, none⟩ (.slice A (e.aL + 1) c)) := by
    intro v' w' r1 r2 r3 r4 r5 r6
    obtain ⟨A, c, rfl, _⟩ := r1.str
    have hlen : (Z ++ [s]).length = e.aL + 1 := by rw [List.length_append, hzl]; rfl
    rw [hlen] at r1 r6 ⊢
    have hoth : ∀ k, k ≠ g → (w'.setCell ⟨g, 2, none⟩ (.slice A (e.aL + 1) c)).heap[k]? = w'.heap[k]? := fun k hk => Below.heap_setCell w' ⟨g, 2, none⟩ _ k hk
    refine ⟨r2.c2, r2.fr 2, A, c, rfl, ⟨heap_setCell_same w' g 2 _ _ (.slice A (e.aL + 1) c) r2, h.gb, ownsRow_kept r3 (fun k hk => hoth k (row_tag r3 r2 k hk)), ownsRow_kept r4 (fun k hk => hoth k (int_tag r4 r2 k hk)), ownsRow_kept r1 (fun k hk => hoth k (row_tag r1 r2 k hk)), r6⟩, r5.setCell h.gb _⟩
  have hng : ∀ k, (Value.slice e.nA e.nL e.nC).ownBlock = some k → k < w.heap.size := fun k hk => (World.ownsRow.lt h.rn k hk).2
  rcases h.ap with hap | ⟨g0, hv⟩
  · obtain ⟨v', w', q1, q2, q3, q4⟩ := run_own_str (w := w.alloc (.cells #[.string s] 9)) ty B _ Z h1.ra (some ⟨w.heap.size, 0, none⟩) 1 1 [s] rfl hx (by rw [hzl]; exact hl) (by omega)
    have hen : EnB 28 w' g e := (q3.block g h1.en.lt (fun hh => row_tag h1.ra h1.en g hh.symm rfl)).trans h1.en
    refine ⟨v', w', q1, fin v' w' q2 hen ?_ ?_ ?_ ?_⟩
    · exact ownsRow_kept h1.rn (fun k hk => q3.block k (World.ownsRow.lt h1.rn k hk).2 (fun hh => hap k hk hh.symm))
    · exact ownsRow_kept h1.rm (fun k hk => q3.block k (World.ownsRow.lt h1.rm k hk).2 (fun hh => int_str_apart h1.rm h1.ra hk hh.symm))
    · exact below_grown (ha.mono hB) (by omega) q3 (fun k hk => (World.ownsRow.lt h1.ra k hk).1)
    · left
      intro k hk hk'
      rcases q4 with q4 | q4
      · rw [q4] at hk'; exact hap k hk hk'
      · rw [q4] at hk'
        injection hk' with hk'
        have := hng k hk
        omega
  · injection hv with hv1 hv2 hv3
    have hz0 : Z = [] := List.eq_nil_of_length_eq_zero (by rw [hzl, hv2])
    have hfull : FullAt (w.alloc (.cells #[.string s] 9)) 9 g0 (([] : List ByteArray).map .string) := by
      rcases h1.ra.2 with ⟨hh, _⟩ | ⟨q, cap, cur, hh, _, hq, _, _, hcs, _⟩
      · rw [hv1, hv2, hv3] at hh; cases hh
      · rw [hv1, hv2, hv3] at hh
        injection hh with k1 k2 k3
        injection k1 with k1
        injection k1 with k1
        subst k1
        have hc0 : cur = #[] := by
          apply Array.eq_empty_of_size_eq_zero
          rw [hcs, ← k3]
        rw [hc0] at hq
        exact hq
    have hgB : B ≤ g0 := (World.ownsRow.lt h1.ra g0 (by rw [hv1]; rfl)).1
    obtain ⟨v', w', q1, q2, q3, q4⟩ := run_app_str2 (w := w.alloc (.cells #[.string s] 9)) ty g0 0 [] rfl hfull (some ⟨w.heap.size, 0, none⟩) 1 1 [s] rfl hx (by omega) B hgB
    have hq := h1.below q3
    rw [hv1, hv2, hv3]
    rw [hv1, hv2, hv3] at fin
    subst hz0
    refine ⟨v', w', q1, fin v' w' q2 hq.en hq.rn hq.rm ((ha.mono hB).trans (q3.mono (by omega))) ?_⟩
    rcases q4 with q4 | q4
    · exact .inr ⟨g0, q4⟩
    · left
      intro k hk hk'
      have e1 := hng k hk
      have e2 := q4 k hk'
      omega

end Go.Proofs.YthgodhojhajahaaGreatDoor
