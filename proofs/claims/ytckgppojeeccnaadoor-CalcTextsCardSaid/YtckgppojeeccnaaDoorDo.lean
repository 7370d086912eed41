/-
  The operators of calc: what calc.Do and calc.One answer.
-/
import Derived.Test.YtckgppojeeccnaaDoorRows
import Derived.WalkKit
import Derived.WalkSpells
import Derived.Lib.Hide
import Derived.WalkLawsBesides
import Derived.Deep.Light
namespace Go.Proofs.YtckgppojeeccnaaDoor
open Go.RowKit

def truI (p : Prop) [Decidable p] : Int := if p then 1 else 0

def doN (op a b : Int) : Int :=
  if op = 1 then wrap64 (a + b) else if op = 2 then wrap64 (a - b) else if op = 3 then wrap64 (a * b)
  else if op = 4 then (if b = 0 then 0 else wrap64 (a.tdiv b)) else if op = 5 then (if b = 0 then 0 else a.tmod b)
  else if op = 6 then truI (a < b) else if op = 7 then truI (a ≤ b) else if op = 8 then truI (b < a) else if op = 9 then truI (b ≤ a)
  else if op = 10 then truI (a = b) else if op = 11 then truI (¬ a = b)
  else if op = 12 then truI (¬ a = 0 ∧ ¬ b = 0) else if op = 13 then truI (¬ a = 0 ∨ ¬ b = 0) else 0

def doE (op b : Int) : Int :=
  if (op = 4 ∨ op = 5) ∧ b = 0 then 10 else if 1 ≤ op ∧ op ≤ 13 then 0 else 11

def oneN (op a : Int) : Int := if op = 14 then wrap64 (-a) else if op = 15 then truI (a = 0) else 0
def oneE (op : Int) : Int := if op = 14 ∨ op = 15 then 0 else 11

theorem one_any (op a : Int) (w : World) :
    Calls Tryd.prog 12 #[.int .i64 op, .int .i64 a] w fun e w' => e = .returned (.tuple #[.int .i64 (oneN op a), .int .i64 (oneE op)]) ∧ w = w' := by
  go_enter Tryd.func12, Tryd.ntmps12
  go_wp2
  all_goals go_ret2
  all_goals refine ⟨?_, rfl⟩
  all_goals go_light
  all_goals simp only [beq_iff_eq, beq_eq_false_iff_ne, ne_eq] at *
  all_goals simp [oneN, oneE, truI, *]

def cmpN (op a b : Int) : Int :=
  if op = 6 then truI (a < b) else if op = 7 then truI (a ≤ b) else if op = 8 then truI (b < a) else if op = 9 then truI (b ≤ a)
  else if op = 10 then truI (a = b) else if op = 11 then truI (¬ a = b) else 0

def cmpE (op : Int) : Int := if 6 ≤ op ∧ op ≤ 11 then 0 else 11

theorem truth_any (x : Bool) (w : World) :
    Calls Tryd.prog 20 #[.bool x] w fun e w' => e = .returned (.int .i64 (truI (x = true))) ∧ w = w' := by
  cases x
  all_goals
    go_enter Tryd.func20, Tryd.ntmps20
    go_wp2
    go_ret
    exact ⟨rfl, rfl⟩

theorem cmp_any (op a b : Int) (w : World) :
    Calls Tryd.prog 21 #[.int .i64 op, .int .i64 a, .int .i64 b] w fun e w' => e = .returned (.tuple #[.int .i64 (cmpN op a b), .int .i64 (cmpE op)]) ∧ w = w' := by
  by_cases h6 : op = 6
  rotate_left
  by_cases h7 : op = 7
  rotate_left
  by_cases h8 : op = 8
  rotate_left
  by_cases h9 : op = 9
  rotate_left
  by_cases h10 : op = 10
  rotate_left
  by_cases h11 : op = 11
  rotate_left
  all_goals
    try subst op
    go_enter Tryd.func21, Tryd.ntmps21
    go_wp2_with (go_at_call 20; refine (truth_any _ _).mono ?_; rintro e w' ⟨rfl, rfl⟩)
    go_ret2
    refine ⟨?_, rfl⟩
    go_light
  all_goals simp [cmpN, cmpE, truI, *]
  all_goals omega

theorem divide_any (op a b : Int) (w : World) :
    Calls Tryd.prog 19 #[.int .i64 op, .int .i64 a, .int .i64 b] w fun e w' => e = .returned (.tuple #[.int .i64 (if b = 0 then 0 else if op = 4 then wrap64 (a.tdiv b) else a.tmod b), .int .i64 (if b = 0 then 10 else 0)]) ∧ w = w' := by
  by_cases hb : b = 0
  · subst hb
    go_enter Tryd.func19, Tryd.ntmps19
    go_wp2
    go_ret2
    exact ⟨rfl, rfl⟩
  · rw [if_neg hb, if_neg hb]
    by_cases ho : op = 4
    · subst ho
      go_enter Tryd.func19, Tryd.ntmps19
      go_wp2
      go_ret2
      exact ⟨rfl, rfl⟩
    · rw [if_neg ho]
      go_enter Tryd.func19, Tryd.ntmps19
      go_wp2
      go_ret2
      exact ⟨rfl, rfl⟩

theorem do_any (op a b : Int) (w : World) :
    Calls Tryd.prog 10 #[.int .i64 op, .int .i64 a, .int .i64 b] w fun e w' => e = .returned (.tuple #[.int .i64 (doN op a b), .int .i64 (doE op b)]) ∧ w = w' := by
  go_enter Tryd.func10, Tryd.ntmps10
  go_wp2_with (first
    | (go_at_call 21; refine (cmp_any _ _ _ _).mono ?_; rintro e w' ⟨rfl, rfl⟩)
    | (go_at_call 19; refine (divide_any _ _ _ _).mono ?_; rintro e w' ⟨rfl, rfl⟩)
    | (go_at_call 20; refine (truth_any _ _).mono ?_; rintro e w' ⟨rfl, rfl⟩))
  all_goals go_ret2
  all_goals refine ⟨?_, rfl⟩
  all_goals go_light
  all_goals simp only [beq_iff_eq, beq_eq_false_iff_ne, ne_eq] at *
  all_goals simp [doN, doE, cmpN, cmpE, truI, *]
  all_goals first | (exfalso; omega) | (split <;> split <;> omega)

end Go.Proofs.YtckgppojeeccnaaDoor
