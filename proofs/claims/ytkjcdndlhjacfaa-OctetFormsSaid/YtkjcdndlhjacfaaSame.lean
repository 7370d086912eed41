/-
  Same, and append of bytes from whatever source to bytes of the call's own.
-/
import Derived.Test.YtkjcdndlhjacfaaForms0
import Derived.Deep.QuietTactic
import Derived.BigQuiet
import Derived.Laws.AppendOwnNone
namespace Go.Proofs.Ytkjcdndlhjacfaa
open Go.RowKit

theorem getD_take_eq {l m : List Int} {k : Nat} (h1 : k < l.length) (h2 : k < m.length) (h : l.take k = m.take k) : l.take (k + 1) = m.take (k + 1) ↔ l.getD k 0 = m.getD k 0 := by
  have e1 := List.take_succ_eq_append_getElem h1
  have e2 := List.take_succ_eq_append_getElem h2
  have e3 : l.getD k 0 = l[k] := by simp [List.getD, List.getElem?_eq_getElem h1]
  have e4 : m.getD k 0 = m[k] := by simp [List.getD, List.getElem?_eq_getElem h2]
  rw [e1, e2, h, e3, e4, List.append_cancel_left_eq]
  exact ⟨fun e => (List.cons.inj e).1, fun e => by rw [e]⟩

set_option maxHeartbeats 800000 in
set_option maxRecDepth 20000 in
theorem same_any (w : World) (a b : Option Addr) (l1 c1 l2 c2 : Nat) (xs ys : List Int) (hx : ReadsI w a xs) (hy : ReadsI w b ys) (h1 : xs.length = l1) (h2 : ys.length = l2) (hs1 : l1 ≤ 1000000000000000) :
    Calls Try.prog 29 #[.slice a l1 c1, .slice b l2 c2] w fun e w' => e = .returned (.bool (decide (xs = ys))) ∧ ∃ n, w' = w.drewN n := by
  by_cases hl : l1 = l2
  · subst hl
    have HX := Lib.hid hx
    have HY := Lib.hid hy
    have H1 := Lib.hid h1
    have H2 := Lib.hid h2
    obtain ⟨R, hR⟩ : ∃ R, R = decide (xs = ys) := ⟨_, rfl⟩
    rw [← hR]
    have HR := Lib.hid hR
    clear hx hy h1 h2 hR
    go_enter Try.func29, Try.ntmps29
    go_wp2_with fail
    go_loopw [5] (fun s wr => ∃ k : Nat, k ≤ l1 ∧ s = .int .i64 (k : Int) ∧ Hid (xs.take k = ys.take k) ∧ Hid (∃ n, wr = w.drewN n)) (fun s _ => l1 - (intOf s).toNat)
    case atStart => exact ⟨0, Nat.zero_le _, rfl, rfl, 0, rfl⟩
    case round =>
      obtain ⟨k, hk, rfl, htk, hw⟩ := hrel
      obtain ⟨n, rfl⟩ := hw.out
      clear hw
      by_cases hlt : k < l1
      · obtain ⟨x, hxx⟩ : ∃ x, x = xs.getD k 0 := ⟨_, rfl⟩
        obtain ⟨y, hyy⟩ : ∃ y, y = ys.getD k 0 := ⟨_, rfl⟩
        obtain ⟨b1, o1, rfl, hc1⟩ : ∃ b off, a = some ⟨b, off, none⟩ ∧ ∀ i, i < xs.length → w.cell? ⟨b, off + i, none⟩ = some (.int .i64 (xs.getD i 0)) := by
          rcases HX.out with h | h
          · have := H1.out; subst h; simp at this; omega
          · exact h
        obtain ⟨b2, o2, rfl, hc2⟩ : ∃ b' off, b = some ⟨b', off, none⟩ ∧ ∀ i, i < ys.length → w.cell? ⟨b', off + i, none⟩ = some (.int .i64 (ys.getD i 0)) := by
          rcases HY.out with h | h
          · have := H2.out; subst h; simp at this; omega
          · exact h
        have hcx : w.cell? ⟨b1, o1 + k, none⟩ = some (.int .i64 x) := by rw [hxx]; exact hc1 k (by rw [H1.out]; exact hlt)
        have hcy : w.cell? ⟨b2, o2 + k, none⟩ = some (.int .i64 y) := by rw [hyy]; exact hc2 k (by rw [H2.out]; exact hlt)
        have HE : Hid (xs.take (k + 1) = ys.take (k + 1) ↔ x = y) := by
          unfold Hid; rw [hxx, hyy]
          exact getD_take_eq (by rw [H1.out]; exact hlt) (by rw [H2.out]; exact hlt) htk.out
        clear hxx hyy hc1 hc2
        go_wp2_with fail
        by_cases hxy : x = y
        · have hne : (x == y) = true := by simp [hxy]
          have HT := Lib.hid (HE.out.2 hxy)
          clear hxy HE htk
          go_quiet (fail)
          go_wp2_with fail
          go_roundw
          case rel => exact ⟨k + 1, by omega, by go_num, HT, n + nq, rfl⟩
          case measure => simp [intOf]; omega
        · have hne : (x == y) = false := by rw [beq_eq_false_iff_ne]; exact hxy
          have HF : Hid (R = false) := by
            unfold Hid
            rw [HR.out]
            refine decide_eq_false (fun e => hxy (HE.out.1 (by rw [e])))
          clear hxy HE htk
          go_quiet (fail)
          go_wp2_with fail
          go_ret
          rw [HF.out]
          exact ⟨rfl, n + nq, World.drewN_drewN _ _ _⟩
      · obtain rfl : k = l1 := by omega
        have HT : Hid (R = true) := by
          have e := htk.out
          rw [List.take_of_length_le (by rw [H1.out]; exact Nat.le_refl _), List.take_of_length_le (by rw [H2.out]; exact Nat.le_refl _)] at e
          unfold Hid
          rw [HR.out]; exact decide_eq_true e
        clear htk
        go_wp2_with fail
        go_ret
        rw [HT.out]
        exact ⟨rfl, n, rfl⟩
  · have HF : Hid (decide (xs = ys) = false) := decide_eq_false (fun e => hl (by rw [← h1, ← h2, e]))
    have hne : ((l1 : Int) == (l2 : Int)) = false := by rw [beq_eq_false_iff_ne]; omega
    have hne2 : (l1 == l2) = false := by rw [beq_eq_false_iff_ne]; exact hl
    clear hx hy h1 h2 hl
    obtain ⟨R, hR⟩ : ∃ R, R = decide (xs = ys) := ⟨_, rfl⟩
    rw [← hR] at HF ⊢
    clear hR
    go_enter Try.func29, Try.ntmps29
    go_wp2_with fail
    go_ret
    rw [HF.out]
    exact ⟨rfl, 0, rfl⟩

theorem wpl_append_src {w : World} {ops : Array Oper} {rest : List Oper} {o : Oper} {a : Act} {Q : Exit → Act → World → Prop} (hgd : o.guard = none) (s x : Operand)
    (ho : o.op = .call { callee := .builtin .append, args := #[s, x], argTypes := #[22, 22] })
    (base : Nat) (v : Value) (n : Nat) (xs : List Int) (hs : a.eval s = v) (hown : w.ownsRow base 5 1 v n (xs.map (Value.int .u8)))
    (ao : Option Addr) (len cap : Nat) (bs : List Int) (hsrc : Src w ao len cap bs) (hnil : ao = none → cap = 0) (hx : a.eval x = .slice ao len cap) (hn : n + len ≤ 140737488355328) (hbase : base ≤ w.heap.size)
    (h : ∀ v' w', w'.ownsRow base 5 1 v' (n + len) ((xs ++ bs).map (Value.int .u8)) → w.grownBy w' v.ownBlock → wpList Try.prog ops Q rest (a.put o.dst v') w') : wpList Try.prog ops Q (o :: rest) a w := by
  obtain ⟨i0, hi, hz0, hz1, hz2⟩ := info_parts infoU8
  have hlen := hsrc.size
  cases ao with
  | none =>
    obtain rfl : cap = 0 := hnil rfl
    have hb : bs = [] := by
      rcases hsrc.reads with h0 | ⟨b, off, ha, _⟩
      · exact h0
      · simp at ha
    subst hb
    obtain rfl : len = 0 := by simpa using hlen.symm
    refine wpList_append_own_none hgd s x 22 ho base 5 i0 1 Try.underlying22 hi v n _ hs hown hx ?_
    exact h v w (by simpa using hown) ⟨rfl, rfl, rfl, Nat.le_refl _, fun _ _ _ => rfl⟩
  | some ad =>
    refine wpList_append_own w hgd s x 22 ho base 5 i0 (.int .u8 0) 1 1 Try.underlying22 hi hz0 hz1 hz2 rfl (by decide) v n _ hs hown ad len cap (bs.map (Value.int .u8)) hx (by simp [hlen]) ?_ ?_ (by unfold maxLen; omega) (by omega) hbase ?_
    · intro j u hj
      have hj2 : j < bs.length := by
        have := (List.getElem?_eq_some_iff.1 hj).1
        simpa using this
      rcases hsrc.reads with h0 | ⟨b, off, ha, hc⟩
      · subst h0; simp at hj2
      · simp only [Option.some.injEq] at ha
        subst ha
        rw [Addr.add_lit, hc j hj2]
        rw [List.getElem?_map, List.getElem?_eq_getElem hj2] at hj
        simp only [Option.map_some, Option.some.injEq] at hj
        rw [← hj]; simp [List.getD, List.getElem?_eq_getElem hj2]
    · intro u hu
      obtain ⟨y, _, rfl⟩ := List.mem_map.1 hu
      rfl
    · intro v' w' h1 h2 _
      exact h v' w' (by simpa using h1) h2

/-- An owned row, as a source. -/
theorem row_src {w : World} {G n : Nat} {v : Value} {xs : List Int} (h : w.ownsRow G 5 1 v n (xs.map (Value.int .u8))) (hx : ∀ x ∈ xs, 0 ≤ x ∧ x < 256) (hl : n ≤ 1000000000000000) :
    ∃ ao cap, v = .slice ao n cap ∧ Src w ao n cap xs ∧ (ao = none → cap = 0) := by
  have hn : xs.length = n := by have := h.1; simpa using this
  rcases h.2 with ⟨rfl, rfl⟩ | ⟨g, cap, cur, rfl, _, _, h3, h4, _⟩
  · have : xs = [] := List.eq_nil_of_length_eq_zero hn
    subst this
    exact ⟨none, 0, rfl, ⟨.inl rfl, rfl, by omega, ⟨by omega, by omega⟩, hx⟩, fun _ => rfl⟩
  · refine ⟨some ⟨g, 0, none⟩, cap, rfl, ⟨.inr ⟨g, 0, rfl, fun i hi => ?_⟩, hn, hl, ⟨h3, h4⟩, hx⟩, fun e => by cases e⟩
    have := h.cellAt i (by omega)
    rw [Nat.zero_add, this, List.getElem?_map, List.getElem?_eq_getElem hi]
    simp [List.getD, List.getElem?_eq_getElem hi]

theorem src_nil (w : World) : Src w none 0 0 [] := ⟨.inl rfl, rfl, by omega, ⟨by omega, by omega⟩, by simp⟩

/-- A row of bytes that the call has made, as a source. -/
theorem Made.src {w : World} {G : Nat} {v : Value} {xs : List Int} (h : Made w G v xs) (hx : ∀ x ∈ xs, 0 ≤ x ∧ x < 256) (hl : xs.length ≤ 1000000000000000) :
    ∃ g cap, v = .slice (some ⟨g, 0, none⟩) xs.length cap ∧ Src w (some ⟨g, 0, none⟩) xs.length cap xs := by
  obtain ⟨g, cap, rfl, ho⟩ := h
  refine ⟨g, cap, rfl, .inr ⟨g, 0, rfl, fun i hi => ?_⟩, rfl, hl, ?_, hx⟩
  · have := ho.cellAt i (by omega)
    rw [Nat.zero_add, this, List.getElem?_map, List.getElem?_eq_getElem hi]
    simp [List.getD, List.getElem?_eq_getElem hi]
  · rcases ho.2 with ⟨h0, _⟩ | ⟨g', cap', cur, hv, _, _, h3, h4, _⟩
    · simp at h0
    · simp only [Value.slice.injEq] at hv
      obtain ⟨_, _, rfl⟩ := hv
      exact ⟨h3, h4⟩

end Go.Proofs.Ytkjcdndlhjacfaa
