/-
  The document's operators: what pavaneref03.Do and One answer.
-/
import Derived.Test.YtkbfbcfgjgpfgaaDoorDo
import Derived.Deep.Light
namespace Go.Proofs.YtkbfbcfgjgpfgaaDoor
open Go.RowKit

theorem u64w (n : Int) : IntKind.u64.wrap n = n % 18446744073709551616 := rfl
theorem w_wrap (x : Int) : wrap64 (IntKind.u64.wrap x) = wrap64 x := by rw [u64w]; unfold wrap64; omega
theorem w_neg (x : Int) : wrap64 (-(IntKind.u64.wrap x)) = wrap64 (-x) := by rw [u64w]; unfold wrap64; omega
theorem w_wrap_neg (x : Int) : wrap64 (IntKind.u64.wrap (-x)) = wrap64 (-x) := w_wrap _
theorem w_wrap_neg_wrap (x : Int) : wrap64 (IntKind.u64.wrap (-(IntKind.u64.wrap x))) = wrap64 (-x) := by rw [w_wrap, w_neg]
theorem w_add (x y : Int) : wrap64 (IntKind.u64.wrap (IntKind.u64.wrap x + IntKind.u64.wrap y)) = wrap64 (x + y) := by simp only [u64w]; unfold wrap64; omega
theorem w_sub (x y : Int) : wrap64 (IntKind.u64.wrap (IntKind.u64.wrap x - IntKind.u64.wrap y)) = wrap64 (x - y) := by simp only [u64w]; unfold wrap64; omega

theorem abs_cases (a : Int) : (a < 0 ∧ a = -(a.natAbs : Int)) ∨ (¬ a < 0 ∧ a = (a.natAbs : Int)) := by omega

def sgnd (b : Bool) (u : Int) : Int := if b = true then -u else u

theorem w_sgnd (c : Bool) (x : Int) : wrap64 (sgnd c (IntKind.u64.wrap x)) = wrap64 (sgnd c x) := by
  cases c <;> simp [sgnd, w_neg, w_wrap]

theorem w_mul (a b : Int) : wrap64 (sgnd (!(decide (a < 0) == decide (b < 0))) (IntKind.u64.wrap ((a.natAbs : Int) * (b.natAbs : Int)))) = wrap64 (a * b) := by
  unfold sgnd
  rcases abs_cases a with ⟨h1, h2⟩ | ⟨h1, h2⟩ <;> rcases abs_cases b with ⟨h3, h4⟩ | ⟨h3, h4⟩
  · rw [decide_eq_true h1, decide_eq_true h3, if_neg (by decide), w_wrap]
    conv => rhs; rw [h2, h4]
    rw [Int.neg_mul_neg]
  · rw [decide_eq_true h1, decide_eq_false h3, if_pos (by decide), w_neg]
    conv => rhs; rw [h2, h4]
    rw [Int.neg_mul]
  · rw [decide_eq_false h1, decide_eq_true h3, if_pos (by decide), w_neg]
    conv => rhs; rw [h2, h4]
    rw [Int.mul_neg]
  · rw [decide_eq_false h1, decide_eq_false h3, if_neg (by decide), w_wrap]
    conv => rhs; rw [h2, h4]

theorem w_div (a b : Int) : wrap64 (sgnd (!(decide (a < 0) == decide (b < 0))) ((a.natAbs : Int) / (b.natAbs : Int))) = wrap64 (a.tdiv b) := by
  unfold sgnd
  have e : ((a.natAbs : Int) / (b.natAbs : Int)) = (a.natAbs : Int).tdiv (b.natAbs : Int) := (Int.tdiv_eq_ediv_of_nonneg (by omega)).symm
  rw [e]
  rcases abs_cases a with ⟨h1, h2⟩ | ⟨h1, h2⟩ <;> rcases abs_cases b with ⟨h3, h4⟩ | ⟨h3, h4⟩
  · rw [decide_eq_true h1, decide_eq_true h3, if_neg (by decide)]
    conv => rhs; rw [h2, h4]
    rw [Int.neg_tdiv, Int.tdiv_neg, Int.neg_neg]
  · rw [decide_eq_true h1, decide_eq_false h3, if_pos (by decide)]
    conv => rhs; rw [h2, h4]
    rw [Int.neg_tdiv]
  · rw [decide_eq_false h1, decide_eq_true h3, if_pos (by decide)]
    conv => rhs; rw [h2, h4]
    rw [Int.tdiv_neg]
  · rw [decide_eq_false h1, decide_eq_false h3, if_neg (by decide)]
    conv => rhs; rw [h2, h4]

theorem w_mod (a b : Int) (h0 : -9223372036854775808 ≤ a) (h1 : a ≤ 9223372036854775807) : wrap64 (sgnd (decide (a < 0)) ((a.natAbs : Int) % (b.natAbs : Int))) = a.tmod b := by
  unfold sgnd
  have e : ((a.natAbs : Int) % (b.natAbs : Int)) = (a.natAbs : Int).tmod (b.natAbs : Int) := (Int.tmod_eq_emod_of_nonneg (by omega)).symm
  have hle : ((a.natAbs : Int) % (b.natAbs : Int)) ≤ (a.natAbs : Int) := by
    rw [← Int.natCast_emod]
    have := Nat.mod_le a.natAbs b.natAbs
    omega
  have hge : 0 ≤ ((a.natAbs : Int) % (b.natAbs : Int)) := by rw [← Int.natCast_emod]; omega
  have hb : ∀ x : Int, (x.tmod (b.natAbs : Int)) = x.tmod b := by
    intro x
    rcases abs_cases b with ⟨_, h4⟩ | ⟨_, h4⟩
    · conv => rhs; rw [h4]
      rw [Int.tmod_neg]
    · rw [← h4]
  rcases abs_cases a with ⟨h3, h2⟩ | ⟨h3, h2⟩
  · rw [decide_eq_true h3, if_pos rfl]
    conv => rhs; rw [h2]
    rw [Int.neg_tmod, ← hb, ← e]
    unfold wrap64; omega
  · rw [decide_eq_false h3, if_neg (by decide)]
    conv => rhs; rw [h2]
    rw [← hb, ← e]
    unfold wrap64; omega

end Go.Proofs.YtkbfbcfgjgpfgaaDoor
