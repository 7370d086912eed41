/-
  The document's operators: what pavaneref03.Do and One answer.
-/
import Derived.Test.YtckgppojeeccnaaDoorDo
import Derived.Deep.Light
namespace Go.Proofs.YtckgppojeeccnaaDoor
open Go.RowKit

theorem u64w (n : Int) : IntKind.u64.wrap n = n % 18446744073709551616 := rfl
theorem w_wrap (x : Int) : wrap64 (IntKind.u64.wrap x) = wrap64 x := by rw [u64w]; unfold wrap64; omega
theorem w_neg (x : Int) : wrap64 (-(IntKind.u64.wrap x)) = wrap64 (-x) := by rw [u64w]; unfold wrap64; omega
theorem w_wrap_neg (x : Int) : wrap64 (IntKind.u64.wrap (-x)) = wrap64 (-x) := w_wrap _
theorem w_wrap_neg_wrap (x : Int) : wrap64 (IntKind.u64.wrap (-(IntKind.u64.wrap x))) = wrap64 (-x) := by rw [w_wrap, w_neg]
theorem w_add (x y : Int) : wrap64 (IntKind.u64.wrap (IntKind.u64.wrap x + IntKind.u64.wrap y)) = wrap64 (x + y) := by simp only [u64w]; unfold wrap64; omega
theorem w_sub (x y : Int) : wrap64 (IntKind.u64.wrap (IntKind.u64.wrap x - IntKind.u64.wrap y)) = wrap64 (x - y) := by simp only [u64w]; unfold wrap64; omega

theorem abs_cases (a : Int) : (a < 0 ∧ a = -(a.natAbs : Int)) ∨ (¬ a < 0 ∧ a = (a.natAbs : Int)) := by omega

def sgnd (b : Bool) (u : Int) : Int := if b = true then -u else u

theorem w_sgnd (c : Bool) (x : Int) : wrap64 (sgnd c (IntKind.u64.wrap x)) = wrap64 (sgnd c x) := by
  cases c <;> simp [sgnd, w_neg, w_wrap]

theorem w_mul (a b : Int) : wrap64 (sgnd (!(decide (a < 0) == decide (b < 0))) (IntKind.u64.wrap ((a.natAbs : Int) * (b.natAbs : Int)))) = wrap64 (a * b) := by
  unfold sgnd
  rcases abs_cases a with ⟨h1, h2⟩ | ⟨h1, h2⟩ <;> rcases abs_cases b with ⟨h3, h4⟩ | ⟨h3, h4⟩
  · rw [decide_eq_true h1, decide_eq_true h3, if_neg (by decide), w_wrap]
    conv => rhs; rw [h2, h4]
    rw [Int.neg_mul_neg]
  · rw [decide_eq_true h1, decide_eq_false h3, if_pos (by decide), w_neg]
    conv => rhs; rw [h2, h4]
    rw [Int.neg_mul]
  · rw [decide_eq_false h1, decide_eq_true h3, if_pos (by decide), w_neg]
    conv => rhs; rw [h2, h4]
    rw [Int.mul_neg]
  · rw [decide_eq_false h1, decide_eq_false h3, if_neg (by decide), w_wrap]
    conv => rhs; rw [h2, h4]

theorem w_div (a b : Int) : wrap64 (sgnd (!(decide (a < 0) == decide (b < 0))) ((a.natAbs : Int) / (b.natAbs : Int))) = wrap64 (a.tdiv b) := by
  unfold sgnd
  have e : ((a.natAbs : Int) / (b.natAbs : Int)) = (a.natAbs : Int).tdiv (b.natAbs : Int) := (Int.tdiv_eq_ediv_of_nonneg (by omega)).symm
  rw [e]
  rcases abs_cases a with ⟨h1, h2⟩ | ⟨h1, h2⟩ <;> rcases abs_cases b with ⟨h3, h4⟩ | ⟨h3, h4⟩
  · rw [decide_eq_true h1, decide_eq_true h3, if_neg (by decide)]
    conv => rhs; rw [h2, h4]
    rw [Int.neg_tdiv, Int.tdiv_neg, Int.neg_neg]
  · rw [decide_eq_true h1, decide_eq_false h3, if_pos (by decide)]
    conv => rhs; rw [h2, h4]
    rw [Int.neg_tdiv]
  · rw [decide_eq_false h1, decide_eq_true h3, if_pos (by decide)]
    conv => rhs; rw [h2, h4]
    rw [Int.tdiv_neg]
  · rw [decide_eq_false h1, decide_eq_false h3, if_neg (by decide)]
    conv => rhs; rw [h2, h4]

theorem w_mod (a b : Int) (h0 : -9223372036854775808 ≤ a) (h1 : a ≤ 9223372036854775807) : wrap64 (sgnd (decide (a < 0)) ((a.natAbs : Int) % (b.natAbs : Int))) = a.tmod b := by
  unfold sgnd
  have e : ((a.natAbs : Int) % (b.natAbs : Int)) = (a.natAbs : Int).tmod (b.natAbs : Int) := (Int.tmod_eq_emod_of_nonneg (by omega)).symm
  have hle : ((a.natAbs : Int) % (b.natAbs : Int)) ≤ (a.natAbs : Int) := by
    rw [← Int.natCast_emod]
    have := Nat.mod_le a.natAbs b.natAbs
    omega
  have hge : 0 ≤ ((a.natAbs : Int) % (b.natAbs : Int)) := by rw [← Int.natCast_emod]; omega
  have hb : ∀ x : Int, (x.tmod (b.natAbs : Int)) = x.tmod b := by
    intro x
    rcases abs_cases b with ⟨_, h4⟩ | ⟨_, h4⟩
    · conv => rhs; rw [h4]
      rw [Int.tmod_neg]
    · rw [← h4]
  rcases abs_cases a with ⟨h3, h2⟩ | ⟨h3, h2⟩
  · rw [decide_eq_true h3, if_pos rfl]
    conv => rhs; rw [h2]
    rw [Int.neg_tmod, ← hb, ← e]
    unfold wrap64; omega
  · rw [decide_eq_false h3, if_neg (by decide)]
    conv => rhs; rw [h2]
    rw [← hb, ← e]
    unfold wrap64; omega

theorem rtruth_any (x : Bool) (w : World) :
    Calls Tryd.prog 24 #[.bool x] w fun e w' => e = .returned (.int .i64 (truI (x = true))) ∧ w = w' := by
  cases x
  all_goals
    go_enter Tryd.func24, Tryd.ntmps24
    go_wp2
    go_ret
    exact ⟨rfl, rfl⟩

theorem rsize_any (n : Int) (w : World) (h0 : -9223372036854775808 ≤ n) (h1 : n ≤ 9223372036854775807) :
    Calls Tryd.prog 23 #[.int .i64 n] w fun e w' => e = .returned (.int .u64 (n.natAbs : Int)) ∧ w = w' := by
  by_cases h : n < 0
  all_goals
    go_enter Tryd.func23, Tryd.ntmps23
    go_wp2
    go_ret
    refine ⟨?_, rfl⟩
    simp
    omega

theorem rsigned_any (u : Int) (b : Bool) (w : World) :
    Calls Tryd.prog 22 #[.int .u64 u, .bool b] w fun e w' => e = .returned (.int .i64 (wrap64 (sgnd b u))) ∧ w = w' := by
  cases b
  all_goals
    go_enter Tryd.func22, Tryd.ntmps22
    go_wp2
    go_ret
    refine ⟨?_, rfl⟩
    simp [w_wrap, sgnd]

theorem rone_any (op a : Int) (w : World) :
    Calls Tryd.prog 13 #[.int .i64 op, .int .i64 a] w fun e w' => e = .returned (.tuple #[.int .i64 (oneN op a), .int .i64 (oneE op)]) ∧ w = w' := by
  go_enter Tryd.func13, Tryd.ntmps13
  go_wp2_with (go_at_call 24; refine (rtruth_any _ _).mono ?_; rintro e w' ⟨rfl, rfl⟩)
  all_goals go_ret2
  all_goals refine ⟨?_, rfl⟩
  all_goals go_light
  all_goals simp only [beq_iff_eq, beq_eq_false_iff_ne, ne_eq] at *
  all_goals simp [oneN, oneE, truI, w_wrap_neg_wrap, *]

theorem rdo_4 (a b : Int) (w : World) (a0 : -9223372036854775808 ≤ a) (a1 : a ≤ 9223372036854775807) (b0 : -9223372036854775808 ≤ b) (b1 : b ≤ 9223372036854775807) (hb : ¬ b = 0) :
    Calls Tryd.prog 11 #[.int .i64 4, .int .i64 a, .int .i64 b] w fun e w' => e = .returned (.tuple #[.int .i64 (wrap64 (a.tdiv b)), .int .i64 0]) ∧ w = w' := by
  have hb1 : 1 ≤ (b.natAbs : Int) := by omega
  rw [← w_div, ← w_sgnd]
  go_enter Tryd.func11, Tryd.ntmps11
  go_wp2_with (first
    | (go_at_call 24; refine (rtruth_any _ _).mono ?_; rintro e w' ⟨rfl, rfl⟩)
    | (go_at_call 22; refine (rsigned_any _ _ _).mono ?_; rintro e w' ⟨rfl, rfl⟩)
    | (go_at_call 23; refine (rsize_any _ _ ?_ ?_).mono ?_; assumption; assumption; rintro e w' ⟨rfl, rfl⟩))
  go_ret2
  exact ⟨rfl, rfl⟩

theorem rdo_5 (a b : Int) (w : World) (a0 : -9223372036854775808 ≤ a) (a1 : a ≤ 9223372036854775807) (b0 : -9223372036854775808 ≤ b) (b1 : b ≤ 9223372036854775807) (hb : ¬ b = 0) :
    Calls Tryd.prog 11 #[.int .i64 5, .int .i64 a, .int .i64 b] w fun e w' => e = .returned (.tuple #[.int .i64 (a.tmod b), .int .i64 0]) ∧ w = w' := by
  have hb1 : 1 ≤ (b.natAbs : Int) := by omega
  rw [← w_mod a b a0 a1]
  go_enter Tryd.func11, Tryd.ntmps11
  go_wp2_with (first
    | (go_at_call 24; refine (rtruth_any _ _).mono ?_; rintro e w' ⟨rfl, rfl⟩)
    | (go_at_call 22; refine (rsigned_any _ _ _).mono ?_; rintro e w' ⟨rfl, rfl⟩)
    | (go_at_call 23; refine (rsize_any _ _ ?_ ?_).mono ?_; assumption; assumption; rintro e w' ⟨rfl, rfl⟩))
  go_ret2
  exact ⟨rfl, rfl⟩

set_option maxRecDepth 20000 in
theorem rdo_none (op a : Int) (w : World) (h : op = 4 ∨ op = 5) :
    Calls Tryd.prog 11 #[.int .i64 op, .int .i64 a, .int .i64 0] w fun e w' => e = .returned (.tuple #[.int .i64 0, .int .i64 10]) ∧ w = w' := by
  go_enter Tryd.func11, Tryd.ntmps11
  rcases h with rfl | rfl
  · go_wp2_with fail
    go_ret2
    exact ⟨rfl, rfl⟩
  · go_wp2_with fail
    go_ret2
    exact ⟨rfl, rfl⟩

theorem rdo_rest (op a b : Int) (w : World) (a0 : -9223372036854775808 ≤ a) (a1 : a ≤ 9223372036854775807) (b0 : -9223372036854775808 ≤ b) (b1 : b ≤ 9223372036854775807) (h4 : ¬ op = 4) (h5 : ¬ op = 5) :
    Calls Tryd.prog 11 #[.int .i64 op, .int .i64 a, .int .i64 b] w fun e w' => e = .returned (.tuple #[.int .i64 (doN op a b), .int .i64 (doE op b)]) ∧ w = w' := by
  go_enter Tryd.func11, Tryd.ntmps11
  go_wp2_with (first
    | (go_at_call 24; refine (rtruth_any _ _).mono ?_; rintro e w' ⟨rfl, rfl⟩)
    | (go_at_call 22; refine (rsigned_any _ _ _).mono ?_; rintro e w' ⟨rfl, rfl⟩)
    | (go_at_call 23; refine (rsize_any _ _ ?_ ?_).mono ?_; assumption; assumption; rintro e w' ⟨rfl, rfl⟩))
  all_goals go_ret2
  all_goals refine ⟨?_, rfl⟩
  all_goals go_light
  all_goals simp only [beq_iff_eq, beq_eq_false_iff_ne, ne_eq] at *
  all_goals try simp only [w_add, w_sub, w_mul]
  all_goals simp [doN, doE, truI, *]
  all_goals omega

theorem rdo_any (op a b : Int) (w : World) (a0 : -9223372036854775808 ≤ a) (a1 : a ≤ 9223372036854775807) (b0 : -9223372036854775808 ≤ b) (b1 : b ≤ 9223372036854775807) :
    Calls Tryd.prog 11 #[.int .i64 op, .int .i64 a, .int .i64 b] w fun e w' => e = .returned (.tuple #[.int .i64 (doN op a b), .int .i64 (doE op b)]) ∧ w = w' := by
  by_cases h4 : op = 4
  · by_cases hb : b = 0
    · subst hb h4; exact rdo_none 4 a w (.inl rfl)
    · subst h4
      have := rdo_4 a b w a0 a1 b0 b1 hb
      simpa [doN, doE, hb] using this
  · by_cases h5 : op = 5
    · by_cases hb : b = 0
      · subst hb h5; exact rdo_none 5 a w (.inr rfl)
      · subst h5
        have := rdo_5 a b w a0 a1 b0 b1 hb
        simpa [doN, doE, hb] using this
    · exact rdo_rest op a b w a0 a1 b0 b1 h4 h5

end Go.Proofs.YtckgppojeeccnaaDoor
