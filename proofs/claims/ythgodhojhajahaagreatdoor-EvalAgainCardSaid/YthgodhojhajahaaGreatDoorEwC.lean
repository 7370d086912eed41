/-
  The writer of expressions: signs, names; nodes that may be.
-/
import Derived.Test.YthgodhojhajahaaGreatDoorEwB
import Derived.Test.YthgodhojhajahaaGreatDoorXB
namespace Go.Proofs.YthgodhojhajahaaGreatDoor
open Go.RowKit

/-- Strings one behind another. -/
def flat (ss : List ByteArray) : List UInt8 := (ss.map fun s => s.data.toList).flatten

theorem flat_nil : flat [] = [] := rfl
theorem flat_cons (s : ByteArray) (ss : List ByteArray) : flat (s :: ss) = s.data.toList ++ flat ss := by simp [flat]

/-- A row of strings. -/
def StR (w : World) (g : Nat) (ss : List ByteArray) : Prop := w.heap[g]? = some (.cells (ss.map fun s => Value.string s).toArray 9 (0, 0))

theorem StR.cell {w : World} {g : Nat} {ss : List ByteArray} (h : StR w g ss) {i : Nat} {s : ByteArray} (hi : ss[i]? = some s) : w.cell? ⟨g, i, none⟩ = some (.string s) := by
  rw [cell_of_row w g i _ _ _ h]
  simp [hi]

theorem StR.wk {B b : Nat} {w w' : World} {g : Nat} {ss : List ByteArray} (h : StR w g ss) (hk : Wk B b w w') (hn : g ≠ b) : StR w' g ss := hk.keep _ _ _ _ h hn (by decide)
theorem XpB.wk {B b : Nat} {w w' : World} {g : Nat} {v : EV} (h : XpB w g v) (hk : Wk B b w w') (hn : g ≠ b) : XpB w' g v := hk.keep _ _ _ _ h hn (by decide)

theorem drop_flat {ss : List ByteArray} {i : Nat} {s : ByteArray} (h : ss[i]? = some s) : flat (ss.take (i + 1)) = flat (ss.take i) ++ s.data.toList := by
  have hl := (List.getElem?_eq_some_iff.1 h)
  obtain ⟨hl, he⟩ := hl
  rw [List.take_add_one, h]
  simp [flat]

theorem flat_le {ss : List ByteArray} {M : Nat} (h : ∀ s ∈ ss, s.size ≤ M) (i : Nat) : (flat (ss.take i)).length ≤ i * M := by
  induction i with
  | zero => simp [flat]
  | succ i ih =>
    cases hs : ss[i]? with
    | none =>
      rw [List.getElem?_eq_none_iff] at hs
      rw [List.take_of_length_le (by omega)]
      rw [List.take_of_length_le hs] at ih
      rw [Nat.succ_mul]
      omega
    | some s =>
      rw [drop_flat hs, List.length_append]
      have h1 := h s (List.mem_of_getElem? hs)
      have h2 : s.data.toList.length = s.size := rfl
      rw [Nat.succ_mul]
      omega

set_option maxHeartbeats 1000000 in
set_option maxRecDepth 20000 in
/-- Strings are put behind what is there. -/
theorem put_any (w : World) (B b g m : Nat) (l : List UInt8) (n d : Nat) (ss : List ByteArray) (h : WB w B b l n d) (hs : StR w g ss) (hm : ss.length = m) (hg : g ≠ b) (hM : ∀ s ∈ ss, s.size ≤ 1000000000) (h3 : m ≤ 3) (hl : l.length ≤ 1000000000) (hBw : B ≤ w.heap.size) :
    Calls Tryz.prog 45 #[.pointer (some ⟨b, 0, none⟩), .slice (some ⟨g, 0, none⟩) m m] w fun e w' => e = .returned (.bool (decide ((l ++ flat ss).length ≤ 16384))) ∧ WB w' B b (l ++ flat ss) n d ∧ Wk B b w w' := by
  have HW := Lib.hid h
  have HS := Lib.hid hs
  have HM := Lib.hid hm
  have HB := Lib.hid hM
  have HFL := Lib.hid (fun i => flat_le hM i)
  obtain ⟨R, hR⟩ : ∃ R : Bool, decide ((l ++ flat ss).length ≤ 16384) = R := ⟨_, rfl⟩
  rw [hR]
  have HR := Lib.hid hR
  clear h hs hm hM hR
  go_enter Tryz.func45, Tryz.ntmps45
  go_wp2_with fail
  go_loopw [9] (fun iv wr => ∃ i : Nat, i ≤ m ∧ iv = .int .i64 (i : Int) ∧ Hid (WB wr B b (l ++ flat (ss.take i)) n d) ∧ Hid (Wk B b w wr)) (fun iv _ => m - (intOf iv).toNat)
  case atStart => exact ⟨0, Nat.zero_le _, rfl, by show WB _ _ _ _ _ _; rw [List.take_zero, flat_nil, List.append_nil]; exact HW.out, Wk.refl _ _ _⟩
  case round =>
    obtain ⟨i, hi, rfl, HWB, HWK⟩ := hrel
    by_cases him : i < m
    · have him' : (i : Int) < m := by omega
      obtain ⟨s, hsi⟩ : ∃ s, ss[i]? = some s := ⟨_, List.getElem?_eq_getElem (by rw [HM.out]; exact him)⟩
      have u1 := (HS.out.wk HWK.out hg).cell hsi
      have hsz := HB.out s (List.mem_of_getElem? hsi)
      have hfl := HFL.out i
      have HC := Lib.hid (bwrite_any wr B b _ n d s HWB.out (by rw [List.length_append]; have : i * 1000000000 ≤ 3 * 1000000000 := Nat.mul_le_mul_right _ (by omega); omega) (Nat.le_trans hBw HWK.out.size))
      rw [List.append_assoc, ← drop_flat hsi] at HC
      clear hsi hsz hfl
      go_wp2_with fail
      refine HC.out.mono ?_
      rintro e w2 ⟨rfl, hw, hk⟩
      have HWB2 := Lib.hid hw
      have HWK2 := Lib.hid (HWK.out.trans hk)
      clear hw hk HC HWB HWK u1
      go_wp2_with fail
      go_roundw
      case rel => exact ⟨i + 1, by omega, by go_num, HWB2, HWK2⟩
      case measure => simp [intOf]; omega
    · have him' : ¬ (i : Int) < m := by omega
      have hmi : i = m := by omega
      subst hmi
      have HWF : Hid (WB wr B b (l ++ flat ss) n d) := by
        have := HWB.out
        rw [List.take_of_length_le (by rw [HM.out]; exact Nat.le_refl _)] at this
        exact this
      have HC := Lib.hid (blen_any wr B b _ n d HWF.out)
      obtain ⟨L, hL⟩ : ∃ L, (l ++ flat ss).length = L := ⟨_, rfl⟩
      rw [hL] at HC HR
      clear HWB hL
      go_wp2_with fail
      refine HC.out.mono ?_
      rintro e w2 ⟨rfl, rfl⟩
      by_cases hc : L ≤ 16384
      · have hc' : (L : Int) ≤ 16384 := by omega
        obtain rfl : R = true := by rw [← HR.out, decide_eq_true hc]
        go_wp2_with fail
        go_ret
        exact ⟨rfl, HWF.out, HWK.out⟩
      · have hc' : ¬ (L : Int) ≤ 16384 := by omega
        obtain rfl : R = false := by rw [← HR.out, decide_eq_false hc]
        go_wp2_with fail
        go_ret
        exact ⟨by first | rfl | (simp; omega), HWF.out, HWK.out⟩

set_option maxRecDepth 20000 in
theorem count_any (w : World) (B b : Nat) (l : List UInt8) (n d : Nat) (h : WB w B b l n d) (hn : n ≤ 1000000000) :
    Calls Tryz.prog 43 #[.pointer (some ⟨b, 0, none⟩)] w fun e w' => e = .returned (.bool (decide (n + 1 ≤ 16384))) ∧ WB w' B b l (n + 1) d ∧ Wk B b w w' := by
  have HW := Lib.hid h
  have r2 := h.c2
  have f2 := h.fr 2
  have hn' : (n : Int) ≤ 1000000000 := by omega
  obtain ⟨W1, hW1⟩ : ∃ W1, W1 = w.setCell ⟨b, 2, none⟩ (.int .i64 ((n : Int) + 1)) := ⟨_, rfl⟩
  have HW1 : Hid (WB W1 B b l (n + 1) d) := by
    have h1 := h.set2 (n + 1)
    rw [Int.natCast_add] at h1
    rw [hW1]
    exact h1
  have HK : Hid (Wk B b w W1) := by rw [hW1]; exact Wk.set h.1 2 _
  have r3 := HW1.out.c2
  rw [Int.natCast_add] at r3
  replace r3 : W1.cell? ⟨b, 2, none⟩ = some (.int .i64 ((n : Int) + 1)) := r3
  obtain ⟨R, hR⟩ : ∃ R : Bool, decide (n + 1 ≤ 16384) = R := ⟨_, rfl⟩
  rw [hR]
  have HR := Lib.hid hR
  clear h hR
  go_enter Tryz.func43, Tryz.ntmps43
  go_upto_region 2 with fail
  rw [← hW1]
  clear hW1
  by_cases hc : n + 1 ≤ 16384
  · have hc' : (n : Int) + 1 ≤ 16384 := by omega
    obtain rfl : R = true := by rw [← HR.out, decide_eq_true hc]
    go_wp2_with fail
    go_ret
    exact ⟨rfl, HW1.out, HK.out⟩
  · have hc' : ¬ (n : Int) + 1 ≤ 16384 := by omega
    obtain rfl : R = false := by rw [← HR.out, decide_eq_false hc]
    go_wp2_with fail
    go_ret
    exact ⟨rfl, HW1.out, HK.out⟩

theorem StR.one (w : World) (s : ByteArray) : StR (w.alloc (.cells #[.string s] 9)) w.heap.size [s] := heap_alloc_new w _
theorem StR.three (w : World) (s t u : ByteArray) : StR (w.alloc (.cells #[.string s, .string t, .string u] 9)) w.heap.size [s, t, u] := heap_alloc_new w _

set_option maxRecDepth 20000 in
theorem enter_any (w : World) (B b : Nat) (l : List UInt8) (n d : Nat) (s : ByteArray) (h : WB w B b l n d) (hd : d ≤ 1000000) (hs : s.size ≤ 1000000000) (hl : l.length ≤ 1000000000) (hBw : B ≤ w.heap.size) :
    Calls Tryz.prog 47 #[.pointer (some ⟨b, 0, none⟩), .string s] w fun e w' =>
      (e = .returned (.bool (decide (d + 1 ≤ 20 ∧ (l ++ s.data.toList).length ≤ 16384)))) ∧ (d + 1 ≤ 20 → WB w' B b (l ++ s.data.toList) n (d + 1)) ∧ Wk B b w w' := by
  have HW := Lib.hid h
  have r2 := h.c3
  have f2 := h.fr 3
  have hd' : (d : Int) ≤ 1000000 := by omega
  obtain ⟨W1, hW1⟩ : ∃ W1, W1 = w.setCell ⟨b, 3, none⟩ (.int .i64 ((d : Int) + 1)) := ⟨_, rfl⟩
  have HW1 : Hid (WB W1 B b l n (d + 1)) := by
    have h1 := h.set3 (d + 1)
    rw [Int.natCast_add] at h1
    rw [hW1]
    exact h1
  have HK : Hid (Wk B b w W1) := by rw [hW1]; exact Wk.set h.1 3 _
  have r3 := HW1.out.c3
  rw [Int.natCast_add] at r3
  replace r3 : W1.cell? ⟨b, 3, none⟩ = some (.int .i64 ((d : Int) + 1)) := r3
  obtain ⟨g1, hg1⟩ : ∃ g1, g1 = W1.heap.size := ⟨_, rfl⟩
  obtain ⟨W2, hW2⟩ : ∃ W2, W2 = W1.alloc (.cells #[.string s] 9) := ⟨_, rfl⟩
  have HK2 : Hid (Wk B b w W2) := by rw [hW2]; exact HK.out.trans (Wk.alloc (Nat.le_trans hBw HK.out.size) _)
  have HC := Lib.hid (put_any W2 B b g1 1 l n (d + 1) [s] (by rw [hW2]; exact HW1.out.alloc _) (by rw [hW2, hg1]; exact StR.one W1 s) rfl (by have := HW1.out.lt; omega) (fun t ht => by rw [List.mem_singleton.1 ht]; exact hs) (by omega) hl (Nat.le_trans hBw HK2.out.size))
  rw [flat_cons, flat_nil, List.append_nil] at HC
  obtain ⟨R, hR⟩ : ∃ R : Bool, decide (d + 1 ≤ 20 ∧ (l ++ s.data.toList).length ≤ 16384) = R := ⟨_, rfl⟩
  obtain ⟨R2, hR2⟩ : ∃ R2 : Bool, decide ((l ++ s.data.toList).length ≤ 16384) = R2 := ⟨_, rfl⟩
  rw [hR]
  rw [hR2] at HC
  have HR := Lib.hid hR
  have HR2 := Lib.hid hR2
  clear h hR hR2
  go_enter Tryz.func47, Tryz.ntmps47
  go_upto_region 2 with fail
  rw [← hW1]
  clear hW1
  by_cases hc : d + 1 ≤ 20
  · have hc' : (d : Int) + 1 ≤ 20 := by omega
    go_wp2_with fail
    rw [← hW2, ← hg1]
    clear hW2 hg1
    refine HC.out.mono ?_
    rintro e w2 ⟨rfl, hw, hk⟩
    have HWB2 := Lib.hid hw
    have HWK2 := Lib.hid (HK2.out.trans hk)
    obtain rfl : R = R2 := by rw [← HR.out, ← HR2.out]; simp [hc]
    have HC0 := Lib.hid hc
    clear hw hk HC hc
    go_wp2_with fail
    go_ret
    exact ⟨rfl, fun _ => HWB2.out, HWK2.out⟩
  · have hc' : ¬ (d : Int) + 1 ≤ 20 := by omega
    obtain rfl : R = false := by rw [← HR.out]; simp [hc]
    have HC0 := Lib.hid hc
    clear hc
    go_wp2_with fail
    go_ret
    exact ⟨rfl, fun hh => absurd hh (by have := HC0.out; omega), HK.out⟩

set_option maxRecDepth 20000 in
theorem leave_any (w : World) (B b : Nat) (l : List UInt8) (n d : Nat) (s : ByteArray) (h : WB w B b l n (d + 1)) (hd : d ≤ 1000000) (hs : s.size ≤ 1000000000) (hl : l.length ≤ 1000000000) (hBw : B ≤ w.heap.size) :
    Calls Tryz.prog 49 #[.pointer (some ⟨b, 0, none⟩), .string s] w fun e w' =>
      (e = .returned (.bool (decide ((l ++ s.data.toList).length ≤ 16384)))) ∧ WB w' B b (l ++ s.data.toList) n d ∧ Wk B b w w' := by
  have HW := Lib.hid h
  have r2 := h.c3
  rw [Int.natCast_add] at r2
  replace r2 : w.cell? ⟨b, 3, none⟩ = some (.int .i64 ((d : Int) + 1)) := r2
  have f2 := h.fr 3
  have hd' : (d : Int) ≤ 1000000 := by omega
  obtain ⟨W1, hW1⟩ : ∃ W1, W1 = w.setCell ⟨b, 3, none⟩ (.int .i64 (d : Int)) := ⟨_, rfl⟩
  have HW1 : Hid (WB W1 B b l n d) := by
    rw [hW1]
    exact h.set3 d
  have HK : Hid (Wk B b w W1) := by rw [hW1]; exact Wk.set h.1 3 _
  obtain ⟨g1, hg1⟩ : ∃ g1, g1 = W1.heap.size := ⟨_, rfl⟩
  obtain ⟨W2, hW2⟩ : ∃ W2, W2 = W1.alloc (.cells #[.string s] 9) := ⟨_, rfl⟩
  have HK2 : Hid (Wk B b w W2) := by rw [hW2]; exact HK.out.trans (Wk.alloc (Nat.le_trans hBw HK.out.size) _)
  have HC := Lib.hid (put_any W2 B b g1 1 l n d [s] (by rw [hW2]; exact HW1.out.alloc _) (by rw [hW2, hg1]; exact StR.one W1 s) rfl (by have := HW1.out.lt; omega) (fun t ht => by rw [List.mem_singleton.1 ht]; exact hs) (by omega) hl (Nat.le_trans hBw HK2.out.size))
  rw [flat_cons, flat_nil, List.append_nil] at HC
  obtain ⟨R, hR⟩ : ∃ R : Bool, decide ((l ++ s.data.toList).length ≤ 16384) = R := ⟨_, rfl⟩
  rw [hR] at HC ⊢
  clear h hR
  go_enter Tryz.func49, Tryz.ntmps49
  go_upto_region 2 with fail
  have e1 : (d : Int) + 1 - 1 = d := by omega
  try rw [e1]
  rw [← hW1]
  clear hW1
  go_wp2_with fail
  rw [← hW2, ← hg1]
  clear hW2 hg1
  refine HC.out.mono ?_
  rintro e w2 ⟨rfl, hw, hk⟩
  have HWB2 := Lib.hid hw
  have HWK2 := Lib.hid (HK2.out.trans hk)
  clear hw hk HC
  go_wp2_with fail
  go_ret
  exact ⟨rfl, HWB2.out, HWK2.out⟩

/-- How tight an operator binds. -/
def bnd (op : Int) : Nat := if rowOf op < 6 then rowOf op + 1 else 0

theorem op_cases (op : Int) : (op = 1 ∨ op = 2 ∨ op = 3 ∨ op = 4 ∨ op = 5 ∨ op = 6 ∨ op = 7 ∨ op = 8 ∨ op = 9 ∨ op = 10 ∨ op = 11 ∨ op = 12 ∨ op = 13) ∨ ((op == 1) = false ∧ (op == 2) = false ∧ (op == 3) = false ∧ (op == 4) = false ∧ (op == 5) = false ∧ (op == 6) = false ∧ (op == 7) = false ∧ (op == 8) = false ∧ (op == 9) = false ∧ (op == 10) = false ∧ (op == 11) = false ∧ (op == 12) = false ∧ (op == 13) = false ∧ bnd op = 0) := by
  by_cases h : rowOf op < 6
  · exact .inl (row_cases h)
  · refine .inr ?_
    have h' : bnd op = 0 := by unfold bnd; rw [if_neg h]
    unfold rowOf at h
    simp only [beq_eq_false_iff_ne]
    refine ⟨?_, ?_, ?_, ?_, ?_, ?_, ?_, ?_, ?_, ?_, ?_, ?_, ?_, h'⟩ <;> (rintro rfl; exact h (by decide))

set_option maxHeartbeats 1000000 in
set_option maxRecDepth 20000 in
theorem binding_any (op : Int) (w : World) : Calls Tryz.prog 50 #[.int .i64 op] w fun e w' => e = .returned (.int .i64 (bnd op : Nat)) ∧ w' = w := by
  rcases op_cases op with (rfl | rfl | rfl | rfl | rfl | rfl | rfl | rfl | rfl | rfl | rfl | rfl | rfl) | ⟨h1, h2, h3, h4, h5, h6, h7, h8, h9, h10, h11, h12, h13, h0⟩
  all_goals
    try rw [h0]
    go_enter Tryz.func50, Tryz.ntmps50
    go_wp2_with fail
    go_ret
    exact ⟨rfl, rfl⟩

end Go.Proofs.YthgodhojhajahaaGreatDoor
