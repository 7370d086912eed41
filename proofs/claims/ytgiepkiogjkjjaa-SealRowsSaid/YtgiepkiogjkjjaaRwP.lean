/-
  Rows of frames, in plain lists; rows of bytes that the call owns.
-/
import Derived.Test.YtgiepkiogjkjjaaSBack
namespace Go.Proofs.Ytgiepkiogjkjjaa
open Go.RowKit

/-- The frames at the front, as many as are whole: their payloads, where they end, what is wrong behind them. -/
def rwF : Nat → List Int → List (List Int) × Nat × Int
  | 0, _ => ([], 0, 0)
  | f + 1, bs => if bs = [] then ([], 0, 0) else if (opF bs).2.2 ≠ 0 then ([], 0, (opF bs).2.2)
    else ((opF bs).1 :: (rwF f (bs.drop (opF bs).2.1)).1, (opF bs).2.1 + (rwF f (bs.drop (opF bs).2.1)).2.1, (rwF f (bs.drop (opF bs).2.1)).2.2)

def InB (bs : List Int) : Prop := ∀ x ∈ bs, 0 ≤ x ∧ x < 256

theorem InB.drop {bs : List Int} (h : InB bs) (k : Nat) : InB (bs.drop k) := fun x hx => h x (List.mem_of_mem_drop hx)

theorem opF_step {bs : List Int} (hx : InB bs) (h : (opF bs).2.2 = 0) : 5 ≤ (opF bs).2.1 ∧ (opF bs).2.1 ≤ bs.length := by
  have e := opF_form hx h
  exact ⟨by rw [e.2.2.2]; exact frame_min _, e.2.2.1⟩

theorem rwF_more : ∀ (f g : Nat) (bs : List Int), InB bs → bs.length ≤ f → bs.length ≤ g → rwF f bs = rwF g bs := by
  intro f
  induction f with
  | zero =>
    intro g bs _ hf _
    obtain rfl : bs = [] := List.eq_nil_of_length_eq_zero (by omega)
    cases g <;> simp [rwF]
  | succ f ih =>
    intro g bs hx hf hg
    cases g with
    | zero =>
      obtain rfl : bs = [] := List.eq_nil_of_length_eq_zero (by omega)
      simp [rwF]
    | succ g =>
      simp only [rwF]
      by_cases h0 : bs = []
      · rw [if_pos h0, if_pos h0]
      · rw [if_neg h0, if_neg h0]
        by_cases h1 : (opF bs).2.2 ≠ 0
        · rw [if_pos h1, if_pos h1]
        · rw [if_neg h1, if_neg h1]
          have h2 := opF_step hx (by omega)
          rw [ih g (bs.drop (opF bs).2.1) (hx.drop _) (by rw [List.length_drop]; omega) (by rw [List.length_drop]; omega)]

def rw' (bs : List Int) : List (List Int) × Nat × Int := rwF bs.length bs

theorem rw_nil : rw' [] = ([], 0, 0) := rfl
theorem rw_bad {bs : List Int} (h0 : bs ≠ []) (h : (opF bs).2.2 ≠ 0) : rw' bs = ([], 0, (opF bs).2.2) := by
  unfold rw'
  cases hl : bs.length with
  | zero => exact absurd (List.eq_nil_of_length_eq_zero hl) h0
  | succ n => rw [rwF, if_neg h0, if_pos h]
theorem rw_good {bs : List Int} (hx : InB bs) (h0 : bs ≠ []) (h : (opF bs).2.2 = 0) :
    rw' bs = ((opF bs).1 :: (rw' (bs.drop (opF bs).2.1)).1, (opF bs).2.1 + (rw' (bs.drop (opF bs).2.1)).2.1, (rw' (bs.drop (opF bs).2.1)).2.2) := by
  have h2 := opF_step hx h
  unfold rw'
  cases hl : bs.length with
  | zero => exact absurd (List.eq_nil_of_length_eq_zero hl) h0
  | succ n =>
    rw [rwF, if_neg h0, if_neg (by omega)]
    rw [rwF_more n (bs.drop (opF bs).2.1).length (bs.drop (opF bs).2.1) (hx.drop _) (by rw [List.length_drop]; omega) (Nat.le_refl _)]

/-- What is told behind so many rows and bytes. -/
def onR (L : List (List Int)) (A : Nat) (r : List (List Int) × Nat × Int) : List (List Int) × Nat × Int := (L ++ r.1, A + r.2.1, r.2.2)

theorem onR_bad {L : List (List Int)} {A : Nat} {bs : List Int} (h0 : bs ≠ []) (h : (opF bs).2.2 ≠ 0) : onR L A (rw' bs) = (L, A, (opF bs).2.2) := by
  rw [rw_bad h0 h]; simp [onR]
theorem onR_nil {L : List (List Int)} {A : Nat} : onR L A (rw' []) = (L, A, 0) := by
  rw [rw_nil]; simp [onR]
theorem onR_good {L : List (List Int)} {A : Nat} {bs : List Int} (hx : InB bs) (h0 : bs ≠ []) (h : (opF bs).2.2 = 0) :
    onR L A (rw' bs) = onR (L ++ [(opF bs).1]) (A + (opF bs).2.1) (rw' (bs.drop (opF bs).2.1)) := by
  rw [rw_good hx h0 h]; simp [onR, Nat.add_assoc]

theorem infoS : (Try.prog.info? 22).map (fun i => (i.zero, i.size, i.bytes)) = some (some (.slice none 0 0), 1, 24) := by kernel_rfl

/-- Rows of bytes that the call owns: the row of slices, and each slice's bytes, each in a block of its own. -/
structure RowsOwn (w : World) (G : Nat) (rv : Value) (vals : List Value) (L : List (List Int)) : Prop where
  len : vals.length = L.length
  row : w.ownsRow G 22 1 rv L.length vals
  own : ∀ (i : Nat) (v : Value) (xs : List Int), vals[i]? = some v → L[i]? = some xs → w.ownsRow G 5 1 v xs.length (xs.map (Value.int .u8))
  apart : ∀ (i j : Nat) (v u : Value), i ≠ j → vals[i]? = some v → vals[j]? = some u → ∀ k, v.ownBlock = some k → u.ownBlock ≠ some k

theorem RowsOwn.nil (w : World) (G : Nat) : RowsOwn w G (.slice none 0 0) [] [] :=
  ⟨rfl, World.ownsRow_nil _ _ _ _, fun i v xs h => by simp at h, fun i j v u _ h => by simp at h⟩

/-- A row of slices and a row of bytes lie in two blocks. -/
theorem types_apart {w : World} {G G' n m : Nat} {v u : Value} {xs ys : List Value} (h : w.ownsRow G 22 1 v n xs) (k : w.ownsRow G' 5 1 u m ys) : ∀ b, v.ownBlock = some b → u.ownBlock ≠ some b := by
  intro b h1 h2
  rcases h.2 with ⟨rfl, _⟩ | ⟨g, cap, cur, rfl, _, hg, _⟩
  · simp [Value.ownBlock] at h1
  rcases k.2 with ⟨rfl, _⟩ | ⟨g2, cap2, cur2, rfl, _, hg2, _⟩
  · simp [Value.ownBlock] at h2
  simp [Value.ownBlock] at h1 h2
  subst h1; subst h2
  rw [hg] at hg2
  simp at hg2

theorem RowsOwn.moved {w w' : World} {G : Nat} {rv : Value} {vals : List Value} {L : List (List Int)} (h : RowsOwn w G rv vals L) (hs : ∀ k, G ≤ k → k < w.heap.size → w'.heap[k]? = w.heap[k]?) : RowsOwn w' G rv vals L := by
  have hm : ∀ {e : TypeId} {v : Value} {n : Nat} {xs : List Value}, w.ownsRow G e 1 v n xs → w'.ownsRow G e 1 v n xs := by
    intro e v n xs ho
    refine ⟨ho.1, ?_⟩
    rcases ho.2 with hn | ⟨g, cap, cur, rfl, hb, hgg, rest⟩
    · exact .inl hn
    · exact .inr ⟨g, cap, cur, rfl, hb, by rw [hs g hb (lt_of_block hgg)]; exact hgg, rest⟩
  exact ⟨h.len, hm h.row, fun i v xs h1 h2 => hm (h.own i v xs h1 h2), h.apart⟩

/-- The row grows by one. -/
theorem RowsOwn.push {w w' : World} {G : Nat} {rv rv' v : Value} {vals : List Value} {L : List (List Int)} {xs : List Int} (h : RowsOwn w G rv vals L)
    (hv : w.ownsRow G 5 1 v xs.length (xs.map (Value.int .u8))) (hap : ∀ (i : Nat) (u : Value), vals[i]? = some u → ∀ k, u.ownBlock = some k → v.ownBlock ≠ some k)
    (hr : w'.ownsRow G 22 1 rv' (L.length + 1) (vals ++ [v])) (hg : w.grownBy w' rv.ownBlock) : RowsOwn w' G rv' (vals ++ [v]) (L ++ [xs]) := by
  have hk : ∀ {u : Value} {n : Nat} {ys : List Value}, w.ownsRow G 5 1 u n ys → w'.ownsRow G 5 1 u n ys := by
    intro u n ys hu
    refine hu.kept hg ?_
    cases hb : u.ownBlock with
    | none => exact .inl rfl
    | some b => right; intro e; exact types_apart h.row hu b e.symm hb
  have hl := h.len
  refine ⟨by simp [hl], by simpa using hr, fun i u ys h1 h2 => ?_, fun i j u t hij h1 h2 k e1 e2 => ?_⟩
  · by_cases hi : i < vals.length
    · rw [List.getElem?_append_left hi] at h1
      rw [List.getElem?_append_left (by omega)] at h2
      exact hk (h.own i u ys h1 h2)
    · rw [List.getElem?_append_right (by omega)] at h1
      rw [List.getElem?_append_right (by omega)] at h2
      have hi0 : i - vals.length = 0 := by
        have := (List.getElem?_eq_some_iff.1 h1).1
        simp at this; omega
      rw [hi0] at h1
      rw [show i - L.length = 0 by omega] at h2
      simp only [List.getElem?_cons_zero, Option.some.injEq] at h1 h2
      subst h1; subst h2
      exact hk hv
  · by_cases hi : i < vals.length
    · rw [List.getElem?_append_left hi] at h1
      by_cases hj : j < vals.length
      · rw [List.getElem?_append_left hj] at h2
        exact h.apart i j u t hij h1 h2 k e1 e2
      · rw [List.getElem?_append_right (by omega)] at h2
        have hj0 : j - vals.length = 0 := by
          have := (List.getElem?_eq_some_iff.1 h2).1
          simp at this; omega
        rw [hj0] at h2
        simp only [List.getElem?_cons_zero, Option.some.injEq] at h2
        subst h2
        exact hap i u h1 k e1 e2
    · rw [List.getElem?_append_right (by omega)] at h1
      have hi0 : i - vals.length = 0 := by
        have := (List.getElem?_eq_some_iff.1 h1).1
        simp at this; omega
      rw [hi0] at h1
      simp only [List.getElem?_cons_zero, Option.some.injEq] at h1
      subst h1
      have hj : j < vals.length := by
        have hlt := (List.getElem?_eq_some_iff.1 h2).1
        simp at hlt; omega
      rw [List.getElem?_append_left hj] at h2
      exact hap j t h2 k e2 e1

end Go.Proofs.Ytgiepkiogjkjjaa
