/-
  Same, and append of bytes from whatever source to bytes of the call's own.
-/
import Derived.Test.YtgiepkiogjkjjaaForms0
import Derived.Deep.QuietTactic
import Derived.BigQuiet
import Derived.Laws.AppendOwnNone
namespace Go.Proofs.Ytgiepkiogjkjjaa
open Go.RowKit

theorem getD_take_eq {l m : List Int} {k : Nat} (h1 : k < l.length) (h2 : k < m.length) (h : l.take k = m.take k) : l.take (k + 1) = m.take (k + 1) ↔ l.getD k 0 = m.getD k 0 := by
  have e1 := List.take_succ_eq_append_getElem h1
  have e2 := List.take_succ_eq_append_getElem h2
  have e3 : l.getD k 0 = l[k] := by simp [List.getD, List.getElem?_eq_getElem h1]
  have e4 : m.getD k 0 = m[k] := by simp [List.getD, List.getElem?_eq_getElem h2]
  rw [e1, e2, h, e3, e4, List.append_cancel_left_eq]
  exact ⟨fun e => (List.cons.inj e).1, fun e => by rw [e]⟩

theorem wpl_append_src {w : World} {ops : Array Oper} {rest : List Oper} {o : Oper} {a : Act} {Q : Exit → Act → World → Prop} (hgd : o.guard = none) (s x : Operand)
    (ho : o.op = .call { callee := .builtin .append, args := #[s, x], argTypes := #[22, 22] })
    (base : Nat) (v : Value) (n : Nat) (xs : List Int) (hs : a.eval s = v) (hown : w.ownsRow base 5 1 v n (xs.map (Value.int .u8)))
    (ao : Option Addr) (len cap : Nat) (bs : List Int) (hsrc : Src w ao len cap bs) (hnil : ao = none → cap = 0) (hx : a.eval x = .slice ao len cap) (hn : n + len ≤ 140737488355328) (hbase : base ≤ w.heap.size)
    (h : ∀ v' w', w'.ownsRow base 5 1 v' (n + len) ((xs ++ bs).map (Value.int .u8)) → w.grownBy w' v.ownBlock → wpList Try.prog ops Q rest (a.put o.dst v') w') : wpList Try.prog ops Q (o :: rest) a w := by
  obtain ⟨i0, hi, hz0, hz1, hz2⟩ := info_parts infoU8
  have hlen := hsrc.size
  cases ao with
  | none =>
    obtain rfl : cap = 0 := hnil rfl
    have hb : bs = [] := by
      rcases hsrc.reads with h0 | ⟨b, off, ha, _⟩
      · exact h0
      · simp at ha
    subst hb
    obtain rfl : len = 0 := by simpa using hlen.symm
    refine wpList_append_own_none hgd s x 22 ho base 5 i0 1 Try.underlying22 hi v n _ hs hown hx ?_
    exact h v w (by simpa using hown) ⟨rfl, rfl, rfl, Nat.le_refl _, fun _ _ _ => rfl⟩
  | some ad =>
    refine wpList_append_own w hgd s x 22 ho base 5 i0 (.int .u8 0) 1 1 Try.underlying22 hi hz0 hz1 hz2 rfl (by decide) v n _ hs hown ad len cap (bs.map (Value.int .u8)) hx (by simp [hlen]) ?_ ?_ (by unfold maxLen; omega) (by omega) hbase ?_
    · intro j u hj
      have hj2 : j < bs.length := by
        have := (List.getElem?_eq_some_iff.1 hj).1
        simpa using this
      rcases hsrc.reads with h0 | ⟨b, off, ha, hc⟩
      · subst h0; simp at hj2
      · simp only [Option.some.injEq] at ha
        subst ha
        rw [Addr.add_lit, hc j hj2]
        rw [List.getElem?_map, List.getElem?_eq_getElem hj2] at hj
        simp only [Option.map_some, Option.some.injEq] at hj
        rw [← hj]; simp [List.getD, List.getElem?_eq_getElem hj2]
    · intro u hu
      obtain ⟨y, _, rfl⟩ := List.mem_map.1 hu
      rfl
    · intro v' w' h1 h2 _
      exact h v' w' (by simpa using h1) h2

/-- An owned row, as a source. -/
theorem row_src {w : World} {G n : Nat} {v : Value} {xs : List Int} (h : w.ownsRow G 5 1 v n (xs.map (Value.int .u8))) (hx : ∀ x ∈ xs, 0 ≤ x ∧ x < 256) (hl : n ≤ 1000000000000000) :
    ∃ ao cap, v = .slice ao n cap ∧ Src w ao n cap xs ∧ (ao = none → cap = 0) := by
  have hn : xs.length = n := by have := h.1; simpa using this
  rcases h.2 with ⟨rfl, rfl⟩ | ⟨g, cap, cur, rfl, _, _, h3, h4, _⟩
  · have : xs = [] := List.eq_nil_of_length_eq_zero hn
    subst this
    exact ⟨none, 0, rfl, ⟨.inl rfl, rfl, by omega, ⟨by omega, by omega⟩, hx⟩, fun _ => rfl⟩
  · refine ⟨some ⟨g, 0, none⟩, cap, rfl, ⟨.inr ⟨g, 0, rfl, fun i hi => ?_⟩, hn, hl, ⟨h3, h4⟩, hx⟩, fun e => by cases e⟩
    have := h.cellAt i (by omega)
    rw [Nat.zero_add, this, List.getElem?_map, List.getElem?_eq_getElem hi]
    simp [List.getD, List.getElem?_eq_getElem hi]

theorem src_nil (w : World) : Src w none 0 0 [] := ⟨.inl rfl, rfl, by omega, ⟨by omega, by omega⟩, by simp⟩

/-- A row of bytes that the call has made, as a source. -/
theorem Made.src {w : World} {G : Nat} {v : Value} {xs : List Int} (h : Made w G v xs) (hx : ∀ x ∈ xs, 0 ≤ x ∧ x < 256) (hl : xs.length ≤ 1000000000000000) :
    ∃ g cap, v = .slice (some ⟨g, 0, none⟩) xs.length cap ∧ Src w (some ⟨g, 0, none⟩) xs.length cap xs := by
  obtain ⟨g, cap, rfl, ho⟩ := h
  refine ⟨g, cap, rfl, .inr ⟨g, 0, rfl, fun i hi => ?_⟩, rfl, hl, ?_, hx⟩
  · have := ho.cellAt i (by omega)
    rw [Nat.zero_add, this, List.getElem?_map, List.getElem?_eq_getElem hi]
    simp [List.getD, List.getElem?_eq_getElem hi]
  · rcases ho.2 with ⟨h0, _⟩ | ⟨g', cap', cur, hv, _, _, h3, h4, _⟩
    · simp at h0
    · simp only [Value.slice.injEq] at hv
      obtain ⟨_, _, rfl⟩ := hv
      exact ⟨h3, h4⟩

end Go.Proofs.Ytgiepkiogjkjjaa
