/-
  The laws CalcDoes, CalcOnes, CalcRounds, CalcOrders: their walks.
-/
import Derived.Test.YtckgppojeeccnaaDoorCText
namespace Go.Proofs.YtckgppojeeccnaaDoor
open Go.RowKit

theorem i64_bounds {n : Int} (h : (Lit.int .i64 n).wf = true) : -9223372036854775808 ≤ n ∧ n ≤ 9223372036854775807 := by
  have e1 : IntKind.i64.min = -9223372036854775808 := rfl
  have e2 : IntKind.i64.max = 9223372036854775807 := rfl
  simpa [Lit.wf, e1, e2] using h

theorem does_walk (op a b : Int) (w : World) (_w0 : (Lit.int .i64 op).wf = true) (w1 : (Lit.int .i64 a).wf = true) (w2 : (Lit.int .i64 b).wf = true) (hT : PowTab w) :
    Calls Tryd.prog 3 #[.int .i64 op, .int .i64 a, .int .i64 b] w fun e w' => e = .returned (.bool true) ∧ Below w.heap.size w w' := by
  obtain ⟨a0, a1⟩ := i64_bounds w1
  obtain ⟨b0, b1⟩ := i64_bounds w2
  have D1 := Lib.hid (small_any w hT)
  have D2 := Lib.hid (fun w => do_any op a b w)
  have D3 := Lib.hid (fun w => rdo_any op a b w a0 a1 b0 b1)
  clear w1 w2 _w0 a0 a1 b0 b1 hT
  go_enter Tryd.func3, Tryd.ntmps3
  go_wp2_with fail
  refine D1.out.mono ?_
  rintro e w1 ⟨rfl, hb⟩
  go_wp2_with fail
  refine (D2.out w1).mono ?_
  rintro e w2 ⟨rfl, rfl⟩
  go_wp2_with fail
  refine (D3.out w1).mono ?_
  rintro e w2 ⟨rfl, rfl⟩
  go_wp2_with fail
  go_ret
  exact ⟨by simp, hb⟩

theorem ones_walk (op a : Int) (w : World) (_w0 : (Lit.int .i64 op).wf = true) (_w1 : (Lit.int .i64 a).wf = true) (hT : PowTab w) :
    Calls Tryd.prog 4 #[.int .i64 op, .int .i64 a] w fun e w' => e = .returned (.bool true) ∧ Below w.heap.size w w' := by
  have D1 := Lib.hid (small_any w hT)
  clear _w0 _w1 hT
  go_enter Tryd.func4, Tryd.ntmps4
  go_wp2_with fail
  refine D1.out.mono ?_
  rintro e w1 ⟨rfl, hb⟩
  go_wp2_with fail
  refine (one_any op a w1).mono ?_
  rintro e w2 ⟨rfl, rfl⟩
  go_wp2_with fail
  refine (rone_any op a w1).mono ?_
  rintro e w2 ⟨rfl, rfl⟩
  go_wp2_with fail
  go_ret
  exact ⟨by simp, hb⟩

theorem ldo_any (op a b : Int) (w : World) :
    Calls Tryd.prog 18 #[.int .i64 op, .int .i64 a, .int .i64 b] w fun e w' => e = .returned (.int .i64 (doN op a b)) ∧ w = w' := by
  go_enter Tryd.func18, Tryd.ntmps18
  go_wp2_with fail
  refine (do_any op a b w).mono ?_
  rintro e w2 ⟨rfl, rfl⟩
  go_wp2_with fail
  go_ret
  exact ⟨rfl, rfl⟩

theorem n_add (a b : Int) : doN 1 a b = wrap64 (a + b) := rfl
theorem n_sub (a b : Int) : doN 2 a b = wrap64 (a - b) := rfl
theorem n_mul (a b : Int) : doN 3 a b = wrap64 (a * b) := rfl
theorem n_lt (a b : Int) : doN 6 a b = truI (a < b) := rfl
theorem n_le (a b : Int) : doN 7 a b = truI (a ≤ b) := rfl
theorem n_gt (a b : Int) : doN 8 a b = truI (b < a) := rfl
theorem n_ge (a b : Int) : doN 9 a b = truI (b ≤ a) := rfl
theorem n_eq (a b : Int) : doN 10 a b = truI (a = b) := rfl
theorem n_ne (a b : Int) : doN 11 a b = truI (¬ a = b) := rfl

/-- A number that differs by whole rounds. -/
theorem w_round (a : Int) : ∃ k, wrap64 a = a + 18446744073709551616 * k := by
  unfold wrap64
  exact ⟨-((a + 9223372036854775808) / 18446744073709551616), by omega⟩

theorem w_same (a k : Int) : wrap64 (a + 18446744073709551616 * k) = wrap64 a := by unfold wrap64; omega

theorem w_add_l (a b : Int) : wrap64 (wrap64 a + b) = wrap64 (a + b) := by unfold wrap64; omega
theorem w_add_r (a b : Int) : wrap64 (a + wrap64 b) = wrap64 (a + b) := by unfold wrap64; omega
theorem w_sub_l (a b : Int) : wrap64 (wrap64 a - b) = wrap64 (a - b) := by unfold wrap64; omega
theorem w_mul_l (a b : Int) : wrap64 (wrap64 a * b) = wrap64 (a * b) := by
  obtain ⟨k, hk⟩ := w_round a
  rw [hk, Int.add_mul, Int.mul_assoc, w_same]
theorem w_mul_r (a b : Int) : wrap64 (a * wrap64 b) = wrap64 (a * b) := by
  rw [Int.mul_comm, w_mul_l, Int.mul_comm]

theorem round_one (a b c : Int) : doN 1 (doN 1 a b) c = doN 1 a (doN 1 c b) := by
  simp only [n_add, w_add_l, w_add_r]
  congr 1
  omega
theorem round_two (a b c : Int) : doN 3 (doN 3 a b) c = doN 3 a (doN 3 c b) := by
  simp only [n_mul, w_mul_l, w_mul_r]
  rw [Int.mul_assoc, Int.mul_comm b c]
theorem round_three (a b c : Int) : doN 3 a (doN 1 b c) = doN 1 (doN 3 a b) (doN 3 a c) := by
  simp only [n_mul, n_add, w_mul_r, w_add_l, w_add_r]
  rw [Int.mul_add]
theorem round_four (a b : Int) (h0 : -9223372036854775808 ≤ a) (h1 : a ≤ 9223372036854775807) : doN 2 (doN 1 a b) b = a := by
  simp only [n_add, n_sub, w_sub_l]
  unfold wrap64
  omega

theorem rounds_walk (a b c : Int) (w : World) (w0 : (Lit.int .i64 a).wf = true) (_w1 : (Lit.int .i64 b).wf = true) (_w2 : (Lit.int .i64 c).wf = true) (hT : PowTab w) :
    Calls Tryd.prog 6 #[.int .i64 a, .int .i64 b, .int .i64 c] w fun e w' => e = .returned (.bool true) ∧ Below w.heap.size w w' := by
  obtain ⟨a0, a1⟩ := i64_bounds w0
  have D1 := Lib.hid (small_any w hT)
  have R1 := Lib.hid (round_one a b c)
  have R2 := Lib.hid (round_two a b c)
  have R3 := Lib.hid (round_three a b c)
  have R4 := Lib.hid (round_four a b a0 a1)
  clear w0 _w1 _w2 hT a0 a1
  go_enter Tryd.func6, Tryd.ntmps6
  go_wp2_with (first
    | (go_at_call 9; refine D1.out.mono ?_; rintro e w1 ⟨rfl, hb⟩)
    | (go_at_call 18; refine (ldo_any _ _ _ _).mono ?_; rintro e w2 ⟨rfl, rfl⟩))
  go_ret
  have r4 := R4.out
  refine ⟨?_, by assumption⟩
  simp [r4]

theorem orders_at (a b le lt eq gt ge ne gtb : Int) (w : World) (hT : PowTab w)
    (e6 : doN 6 a b = lt) (e7 : doN 7 a b = le) (e8 : doN 8 a b = gt) (e9 : doN 9 a b = ge) (e10 : doN 10 a b = eq) (e11 : doN 11 a b = ne) (e8b : doN 8 b a = gtb)
    (hs : (lt = 1 ∧ eq = 0 ∧ gt = 0 ∧ le = 1 ∧ ge = 0 ∧ ne = 1 ∧ gtb = 1) ∨ (lt = 0 ∧ eq = 1 ∧ gt = 0 ∧ le = 1 ∧ ge = 1 ∧ ne = 0 ∧ gtb = 0) ∨ (lt = 0 ∧ eq = 0 ∧ gt = 1 ∧ le = 0 ∧ ge = 1 ∧ ne = 1 ∧ gtb = 0)) :
    Calls Tryd.prog 7 #[.int .i64 a, .int .i64 b] w fun e w' => e = .returned (.bool true) ∧ Below w.heap.size w w' := by
  have D1 := Lib.hid (small_any w hT)
  clear hT
  rcases hs with ⟨rfl, rfl, rfl, rfl, rfl, rfl, rfl⟩ | ⟨rfl, rfl, rfl, rfl, rfl, rfl, rfl⟩ | ⟨rfl, rfl, rfl, rfl, rfl, rfl, rfl⟩
  all_goals
    go_enter Tryd.func7, Tryd.ntmps7
    go_wp2_with (first
      | (go_at_call 9; refine D1.out.mono ?_; rintro e w1 ⟨rfl, hb⟩)
      | (go_at_call 18; refine (ldo_any _ _ _ _).mono ?_; rintro e w2 ⟨rfl, rfl⟩))
    go_ret
    exact ⟨by simp, by assumption⟩

theorem orders_walk (a b : Int) (w : World) (_w0 : (Lit.int .i64 a).wf = true) (_w1 : (Lit.int .i64 b).wf = true) (hT : PowTab w) :
    Calls Tryd.prog 7 #[.int .i64 a, .int .i64 b] w fun e w' => e = .returned (.bool true) ∧ Below w.heap.size w w' := by
  refine orders_at a b _ _ _ _ _ _ _ w hT rfl rfl rfl rfl rfl rfl rfl ?_
  simp only [n_lt, n_le, n_gt, n_ge, n_eq, n_ne, truI]
  rcases Int.lt_trichotomy a b with h | h | h
  · left
    repeat' apply And.intro
    all_goals first | (rw [if_pos (by omega)]) | (rw [if_neg (by omega)])
  · right; left
    repeat' apply And.intro
    all_goals first | (rw [if_pos (by omega)]) | (rw [if_neg (by omega)])
  · right; right
    repeat' apply And.intro
    all_goals first | (rw [if_pos (by omega)]) | (rw [if_neg (by omega)])

end Go.Proofs.YtckgppojeeccnaaDoor
