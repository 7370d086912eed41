/-
  The law SealRows: its walk.
-/
import Derived.Test.YtgiepkiogjkjjaaRRw
import Derived.Test.YtgiepkiogjkjjaaTornW
import Derived.Test.YtgiepkiogjkjjaaCloses
namespace Go.Proofs.Ytgiepkiogjkjjaa
open Go.RowKit

theorem rwF_len : ∀ (f : Nat) (bs : List Int), InB bs → 5 * (rwF f bs).1.length ≤ bs.length := by
  intro f
  induction f with
  | zero => intro bs _; simp [rwF]
  | succ f ih =>
    intro bs hx
    simp only [rwF]
    by_cases h0 : bs = []
    · rw [if_pos h0]; simp
    · rw [if_neg h0]
      by_cases h1 : (opF bs).2.2 ≠ 0
      · rw [if_pos h1]; simp
      · rw [if_neg h1]
        have h2 := opF_step hx (by omega)
        have h3 := ih (bs.drop (opF bs).2.1) (hx.drop _)
        rw [List.length_drop] at h3
        simp only [List.length_cons]
        omega

theorem rw_len {bs : List Int} (h : InB bs) : 5 * (rw' bs).1.length ≤ bs.length := rwF_len _ _ h

/-- The block of a slice, and how many cells it has. -/
def gOf : Value → Nat
  | .slice (some a) _ _ => a.block
  | _ => 0
def cOf : Value → Nat
  | .slice _ _ c => c
  | _ => 0

theorem own_gc {w : World} {B : Nat} {v : Value} {n : Nat} {xs : List Value} (h : w.ownsRow B 5 1 v n xs) :
    OwnB w v (gOf v) (cOf v) ∧ (v ≠ .slice none 0 0 → B ≤ gOf v ∧ v.ownBlock = some (gOf v)) ∧ cOf v ≤ 9223372036854775807 := by
  rcases h.2 with ⟨rfl, rfl⟩ | ⟨g, cap, cur, rfl, hb, hg, h3, h4, h5, _⟩
  · exact ⟨.inl ⟨rfl, rfl⟩, fun hne => absurd rfl hne, by simp [cOf]⟩
  · exact ⟨.inr ⟨n, rfl, h3, cur, hg, by simp [cOf]; omega⟩, fun _ => ⟨hb, rfl⟩, by simp only [cOf]; unfold maxLen at h4; omega⟩

/-- The rows that a law hands to Owned: those that it was told, and lent bytes behind them. -/
theorem rows_lent {W W1 : World} {B G R Lb m rc : Nat} {rv : Value} {vals : List Value} {Ls : List (List Int)} {zs : List Int} (h : RowsOwn W G rv vals Ls) (hk : BlockIs W Lb (zs ++ [77])) (hz : zs.length = m) (hm : m ≤ 1000000000) (hB : B ≤ Lb) (hL : Lb < G)
    (hg : (W.alloc (.cells #[Value.slice (some ⟨Lb, 0, none⟩) m (m + 1)] 22)).grownBy W1 rv.ownBlock)
    (ho : W1.ownsRow G 22 1 (.slice (some ⟨R, 0, none⟩) (Ls.length + 1) rc) (Ls.length + 1) (vals ++ [Value.slice (some ⟨Lb, 0, none⟩) m (m + 1)])) :
    Rows4 W1 B R (Ls.length + 1) (fun i => (vals ++ [Value.slice (some ⟨Lb, 0, none⟩) m (m + 1)]).getD i (Value.slice none 0 0)) (fun i => gOf ((vals ++ [Value.slice (some ⟨Lb, 0, none⟩) m (m + 1)]).getD i (Value.slice none 0 0)))
      (fun i => cOf ((vals ++ [Value.slice (some ⟨Lb, 0, none⟩) m (m + 1)]).getD i (Value.slice none 0 0))) := by
  have hl := h.len
  have hLW : Lb < W.heap.size := hk.lt
  have hrow : ∀ b, rv.ownBlock = some b → G ≤ b := fun b hb => (h.row.lt b hb).1
  have hk1 : BlockIs W1 Lb (zs ++ [77]) := by
    unfold BlockIs at hk ⊢
    rw [hg.block Lb (by simp; omega) (fun e => by have := hrow Lb e.symm; omega), Below.heap_alloc _ _ _ hLW]
    exact hk
  have hlast : (vals ++ [Value.slice (some ⟨Lb, 0, none⟩) m (m + 1)])[Ls.length]? = some (.slice (some ⟨Lb, 0, none⟩) m (m + 1)) := by
    rw [List.getElem?_append_right (by omega), ← hl, Nat.sub_self]; rfl
  have heach : ∀ i, i < Ls.length + 1 → ∃ v, (vals ++ [Value.slice (some ⟨Lb, 0, none⟩) m (m + 1)])[i]? = some v ∧ (vals ++ [Value.slice (some ⟨Lb, 0, none⟩) m (m + 1)]).getD i (Value.slice none 0 0) = v ∧
      ((i < Ls.length ∧ vals[i]? = some v ∧ ∃ xs : List Int, W1.ownsRow G 5 1 v xs.length (xs.map (Value.int .u8))) ∨ (i = Ls.length ∧ v = .slice (some ⟨Lb, 0, none⟩) m (m + 1))) := by
    intro i hi
    by_cases hil : i < Ls.length
    · have hiv : i < vals.length := by omega
      have hv : vals[i]? = some vals[i] := List.getElem?_eq_getElem hiv
      have hx : Ls[i]? = some Ls[i] := List.getElem?_eq_getElem hil
      have hv2 : (vals ++ [Value.slice (some ⟨Lb, 0, none⟩) m (m + 1)])[i]? = some vals[i] := by rw [List.getElem?_append_left hiv]; exact hv
      have ho1 := (h.own i _ _ hv hx).alloc (.cells #[Value.slice (some ⟨Lb, 0, none⟩) m (m + 1)] 22)
      have ho2 := ho1.kept hg (by
        cases hb : (vals[i]).ownBlock with
        | none => exact .inl rfl
        | some b => right; intro e; exact types_apart h.row (h.own i _ _ hv hx) b e.symm hb)
      exact ⟨_, hv2, by simp only [List.getD, hv2]; rfl, .inl ⟨hil, hv, _, ho2⟩⟩
    · obtain rfl : i = Ls.length := by omega
      exact ⟨_, hlast, by simp only [List.getD, hlast]; rfl, .inr ⟨rfl, rfl⟩⟩
  have hRt : ∀ {cur : Array Value}, W1.heap[R]? ≠ some (.cells cur 5 (0, 0)) := by
    intro cur e
    rcases ho.2 with ⟨h0, _⟩ | ⟨g, cap, cur2, hv, _, hg2, _⟩
    · cases h0
    · simp only [Value.slice.injEq, Option.some.injEq, Addr.mk.injEq, and_true] at hv
      obtain ⟨rfl, -⟩ := hv
      rw [e] at hg2
      simp at hg2
  refine ⟨fun i hi => ?_, fun i hi => ?_, fun i hi hne => ?_, fun i j hi hj hij h1 h2 => ?_, fun i hi => ?_⟩
  · obtain ⟨v, e1, e2, -⟩ := heach i hi
    simp only [e2]
    rw [ho.cellAt i (by omega), e1]
  · obtain ⟨v, e1, e2, e3⟩ := heach i hi
    simp only [e2]
    rcases e3 with ⟨_, _, xs, hx⟩ | ⟨_, rfl⟩
    · exact (own_gc hx).1
    · exact .inr ⟨m, rfl, by simp [cOf], _, hk1, by simp [cOf, hz]⟩
  · obtain ⟨v, e1, e2, e3⟩ := heach i hi
    simp only [e2] at hne ⊢
    rcases e3 with ⟨_, _, xs, hx⟩ | ⟨_, rfl⟩
    · have h3 := (own_gc hx).2.1 hne
      refine ⟨by omega, fun e => ?_⟩
      rcases hx.2 with ⟨rfl, _⟩ | ⟨g, cap, cur, rfl, _, hg2, _⟩
      · exact hne rfl
      · simp only [gOf] at e
        subst e
        exact hRt hg2
    · refine ⟨hB, fun e => ?_⟩
      simp only [gOf] at e
      subst e
      exact hRt hk1
  · obtain ⟨v, e1, e2, e3⟩ := heach i hi
    obtain ⟨u, f1, f2, f3⟩ := heach j hj
    simp only [e2, f2] at h1 h2 ⊢
    rcases e3 with ⟨hil, hv, xs, hx⟩ | ⟨hil, rfl⟩
    · have h3 := (own_gc hx).2.1 h1
      rcases f3 with ⟨hjl, hu, ys, hy⟩ | ⟨hjl, rfl⟩
      · have h4 := (own_gc hy).2.1 h2
        intro e
        exact h.apart i j v u hij hv hu _ h3.2 (by rw [e]; exact h4.2)
      · show gOf v ≠ Lb
        omega
    · rcases f3 with ⟨hjl, hu, ys, hy⟩ | ⟨hjl, rfl⟩
      · have h4 := (own_gc hy).2.1 h2
        show Lb ≠ gOf u
        omega
      · exact absurd (hil.trans hjl.symm) hij
  · obtain ⟨v, e1, e2, e3⟩ := heach i hi
    simp only [e2]
    rcases e3 with ⟨_, _, xs, hx⟩ | ⟨_, rfl⟩
    · exact (own_gc hx).2.2
    · simp only [cOf]; omega

end Go.Proofs.Ytgiepkiogjkjjaa
