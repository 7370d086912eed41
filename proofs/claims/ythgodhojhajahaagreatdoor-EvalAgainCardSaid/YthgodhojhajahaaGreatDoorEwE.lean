/-
  The writer of expressions: what parts come to.
-/
import Derived.Test.YthgodhojhajahaaGreatDoorEwD
namespace Go.Proofs.YthgodhojhajahaaGreatDoor
open Go.RowKit

/-- Does a part stand in parentheses? -/
def pb (z : GX) (least : Nat) : Bool := (z.kind == 5) && !decide (least ≤ bnd z.op)

theorem pb_some {z : GX} {e : Ex} (h : z.ex = some e) {k : Nat} (hk : k ≤ 6) : pb z (k + 1) = decide (e.lev < k) := by
  obtain ⟨kk, n, s, o, l, p⟩ := z
  rw [ex_mk] at h
  unfold pb
  show ((kk == 5) && !decide (k + 1 ≤ bnd o)) = _
  rcases node_some h with ⟨rfl, _, _, _, _, _, rfl⟩ | ⟨rfl, _, _, _, _, rfl⟩ | ⟨rfl, _, _, _, _, rfl⟩ | ⟨x, rfl, _, _, _, _, rfl⟩ | ⟨x, y, rfl, _, _, a, _, rfl⟩
  · show (false && !decide (k + 1 ≤ bnd o)) = decide (6 < k)
    rw [Bool.false_and]; exact (decide_eq_false (by omega)).symm
  · show (false && !decide (k + 1 ≤ bnd o)) = decide (6 < k)
    rw [Bool.false_and]; exact (decide_eq_false (by omega)).symm
  · show (false && !decide (k + 1 ≤ bnd o)) = decide (6 < k)
    rw [Bool.false_and]; exact (decide_eq_false (by omega)).symm
  · show (false && !decide (k + 1 ≤ bnd o)) = decide (6 < k)
    rw [Bool.false_and]; exact (decide_eq_false (by omega)).symm
  · show (true && !decide (k + 1 ≤ bnd o)) = decide (rowOf o < k)
    unfold bnd
    rw [if_pos a]
    by_cases h : rowOf o < k
    · rw [decide_eq_true h, decide_eq_false (by omega)]; rfl
    · rw [decide_eq_false h, decide_eq_true (by omega)]; rfl

theorem pb_one {z : GX} {e : Ex} (h : z.ex = some e) : pb z 7 = e.isBoth := by
  rw [pb_some h (Nat.le_refl 6)]
  have hf := (ex_some z e h).1
  cases e with
  | both op a b => exact decide_eq_true hf.1
  | _ => rfl

theorem wrX_of {e : Ex} {n d L : Nat} (h : d + e.nst ≤ 20 ∧ L + e.tx.length ≤ 16384 ∧ n + e.size ≤ 16384) : wrX (some e) n d L = some e := if_pos h
theorem wrX_not {e : Ex} {n d L : Nat} (h : ¬ (d + e.nst ≤ 20 ∧ L + e.tx.length ≤ 16384 ∧ n + e.size ≤ 16384)) : wrX (some e) n d L = none := if_neg h
theorem wrP_of {b : Bool} {e : Ex} {n d L : Nat} (h : d + ((if b = true then 1 else 0) + e.nst) ≤ 20 ∧ L + (par b e.tx).length ≤ 16384 ∧ n + e.size ≤ 16384) : wrP b (some e) n d L = some e := if_pos h
theorem wrP_no {b : Bool} {e : Ex} {n d L : Nat} (h : ¬ (d + ((if b = true then 1 else 0) + e.nst) ≤ 20 ∧ L + (par b e.tx).length ≤ 16384 ∧ n + e.size ≤ 16384)) : wrP b (some e) n d L = none := if_neg h

theorem wrP_some {b : Bool} {x : Option Ex} {n d L : Nat} {e : Ex} (h : wrP b x n d L = some e) : x = some e ∧ d + ((if b = true then 1 else 0) + e.nst) ≤ 20 ∧ L + (par b e.tx).length ≤ 16384 ∧ n + e.size ≤ 16384 := by
  cases x with
  | none => cases h
  | some y =>
    by_cases c : d + ((if b = true then 1 else 0) + y.nst) ≤ 20 ∧ L + (par b y.tx).length ≤ 16384 ∧ n + y.size ≤ 16384
    · rw [wrP_of c] at h
      injection h with h
      subst h
      exact ⟨rfl, c⟩
    · rw [wrP_no c] at h; cases h

theorem wrX_some {x : Option Ex} {n d L : Nat} {e : Ex} (h : wrX x n d L = some e) : x = some e ∧ d + e.nst ≤ 20 ∧ L + e.tx.length ≤ 16384 ∧ n + e.size ≤ 16384 := by
  cases x with
  | none => cases h
  | some y =>
    by_cases c : d + y.nst ≤ 20 ∧ L + y.tx.length ≤ 16384 ∧ n + y.size ≤ 16384
    · rw [wrX_of c] at h
      injection h with h
      subst h
      exact ⟨rfl, c⟩
    · rw [wrX_not c] at h; cases h

theorem size_pos : ∀ e : Ex, 1 ≤ e.size
  | .int _ _ => Nat.le_refl _
  | .var _ _ => Nat.le_refl _
  | .inn _ _ => Nat.le_refl _
  | .one _ x _ => Nat.le_add_right 1 x.size
  | .both _ x y => Nat.le_add_right 1 (x.size + y.size)

theorem wrP_none {b : Bool} {y : Ex} {n d L : Nat} (h : wrP b (some y) n d L = none) : ¬ (d + ((if b = true then 1 else 0) + y.nst) ≤ 20 ∧ L + (par b y.tx).length ≤ 16384 ∧ n + y.size ≤ 16384) := fun c => by rw [wrP_of c] at h; cases h
theorem wrX_none {y : Ex} {n d L : Nat} (h : wrX (some y) n d L = none) : ¬ (d + y.nst ≤ 20 ∧ L + y.tx.length ≤ 16384 ∧ n + y.size ≤ 16384) := fun c => by rw [wrX_of c] at h; cases h

/-- No room for a node. -/
theorem wrX_full {x : GX} {n d L : Nat} (h : ¬ n + 1 ≤ 16384) : wrX x.ex n d L = none := by
  cases e : x.ex with
  | none => rfl
  | some y => have := size_pos y; exact wrX_not (by omega)

theorem par_true (s : List UInt8) : (par true s).length = s.length + 2 := by simp [par]

/-- In parentheses. -/
theorem wr_par (x : Option Ex) (n d L : Nat) :
    (¬ (d + 1 ≤ 20 ∧ L + 1 ≤ 16384) → wrP true x n d L = none) ∧ (wrX x n (d + 1) (L + 1) = none → wrP true x n d L = none) ∧
    (∀ e, wrX x n (d + 1) (L + 1) = some e → wrP true x n d L = if L + 1 + e.tx.length + 1 ≤ 16384 then some e else none) := by
  cases x with
  | none => exact ⟨fun _ => rfl, fun _ => rfl, fun e h => by cases h⟩
  | some y =>
    refine ⟨fun h => wrP_no ?_, fun h => wrP_no ?_, fun e h => ?_⟩
    · rw [par_true, if_pos rfl]; omega
    · have c := wrX_none h
      rw [par_true, if_pos rfl]; omega
    · obtain ⟨h1, h2⟩ := wrX_some h
      injection h1 with h1
      subst h1
      split
      · refine wrP_of ?_
        rw [par_true, if_pos rfl]; omega
      · refine wrP_no ?_
        rw [par_true, if_pos rfl]; omega

theorem one_tx (op : Int) (e : Ex) : (Ex.one op e 0).tx = (if op = 14 then 45 else 33) :: par e.isBoth e.tx := rfl
theorem one_nst (op : Int) (e : Ex) : (Ex.one op e 0).nst = 1 + ((if e.isBoth = true then 1 else 0) + e.nst) := rfl
theorem one_size (op : Int) (e : Ex) : (Ex.one op e 0).size = 1 + e.size := rfl
theorem both_tx (op : Int) (x y : Ex) : (Ex.both op x y).tx = par (decide (x.lev < rowOf op)) x.tx ++ 32 :: (sgOf op ++ 32 :: par (decide (y.lev ≤ rowOf op)) y.tx) := rfl
theorem both_nst (op : Int) (x y : Ex) : (Ex.both op x y).nst = max ((if x.lev < rowOf op then 1 else 0) + x.nst) ((if y.lev ≤ rowOf op then 1 else 0) + y.nst) := rfl
theorem both_size (op : Int) (x y : Ex) : (Ex.both op x y).size = 1 + (x.size + y.size) := rfl

/-- An operator of one. -/
theorem wr_one (z : GX) (op : Int) (hop : op = 14 ∨ op = 15) (n d L : Nat) :
    (¬ (d + 1 ≤ 20 ∧ L + 1 ≤ 16384) → wrX (node 4 0 [] op [z.ex]) n d L = none) ∧ (wrP (pb z 7) z.ex (n + 1) (d + 1) (L + 1) = none → wrX (node 4 0 [] op [z.ex]) n d L = none) ∧
    (∀ e, wrP (pb z 7) z.ex (n + 1) (d + 1) (L + 1) = some e → wrX (node 4 0 [] op [z.ex]) n d L = some (.one op e 0)) := by
  cases h : z.ex with
  | none =>
    rw [node_one_none]
    exact ⟨fun _ => rfl, fun _ => rfl, fun e h => by cases h⟩
  | some y =>
    have hb := pb_one h
    rw [node_one op y hop, hb]
    refine ⟨fun h => wrX_not ?_, fun h => wrX_not ?_, fun e h => ?_⟩
    · have hf := size_pos y
      rw [one_tx, one_nst, List.length_cons]; omega
    · have c := wrP_none h
      rw [one_tx, one_nst, one_size, List.length_cons]; omega
    · obtain ⟨h1, h2⟩ := wrP_some h
      injection h1 with h1
      subst h1
      refine wrX_of ?_
      rw [one_tx, one_nst, one_size, List.length_cons]; omega

theorem wr_both (z z' : GX) (op : Int) (hop : rowOf op < 6) (n d L : Nat) :
    (wrP (pb z (rowOf op + 1)) z.ex (n + 1) d L = none → wrX (node 5 0 [] op [z.ex, z'.ex]) n d L = none) ∧
    (∀ e, wrP (pb z (rowOf op + 1)) z.ex (n + 1) d L = some e →
      (¬ L + (par (pb z (rowOf op + 1)) e.tx).length + ((sgOf op).length + 2) ≤ 16384 → wrX (node 5 0 [] op [z.ex, z'.ex]) n d L = none) ∧
      (wrP (pb z' (rowOf op + 2)) z'.ex (n + 1 + e.size) d (L + (par (pb z (rowOf op + 1)) e.tx).length + ((sgOf op).length + 2)) = none → wrX (node 5 0 [] op [z.ex, z'.ex]) n d L = none) ∧
      (∀ e', wrP (pb z' (rowOf op + 2)) z'.ex (n + 1 + e.size) d (L + (par (pb z (rowOf op + 1)) e.tx).length + ((sgOf op).length + 2)) = some e' → wrX (node 5 0 [] op [z.ex, z'.ex]) n d L = some (.both op e e') ∧
        (Ex.both op e e').tx = par (pb z (rowOf op + 1)) e.tx ++ 32 :: (sgOf op ++ 32 :: par (pb z' (rowOf op + 2)) e'.tx))) := by
  cases h : z.ex with
  | none =>
    rw [node_both_none _ _ _ (.inl rfl)]
    exact ⟨fun _ => rfl, fun e h => by cases h⟩
  | some y =>
    have hb := pb_some h (k := rowOf op) (by omega)
    rw [hb]
    cases h' : z'.ex with
    | none =>
      rw [node_both_none _ _ _ (.inr rfl)]
      exact ⟨fun _ => rfl, fun e h => ⟨fun _ => rfl, fun _ => rfl, fun e' h => by cases h⟩⟩
    | some y' =>
      have hb' := pb_some h' (k := rowOf op + 1) (by omega)
      have e5 : decide (y'.lev < rowOf op + 1) = decide (y'.lev ≤ rowOf op) := by
        by_cases c : y'.lev ≤ rowOf op
        · rw [decide_eq_true c, decide_eq_true (by omega)]
        · rw [decide_eq_false c, decide_eq_false (by omega)]
      rw [e5] at hb'
      rw [hb', node_both op y y' hop]
      have hl : (Ex.both op y y').tx.length = (par (decide (y.lev < rowOf op)) y.tx).length + ((sgOf op).length + 2) + (par (decide (y'.lev ≤ rowOf op)) y'.tx).length := by
        rw [both_tx]
        simp only [List.length_append, List.length_cons]
        omega
      have hn : (Ex.both op y y').nst = max ((if decide (y.lev < rowOf op) = true then 1 else 0) + y.nst) ((if decide (y'.lev ≤ rowOf op) = true then 1 else 0) + y'.nst) := by
        rw [both_nst]; simp only [decide_eq_true_eq]
      have hs := both_size op y y'
      have p' := size_pos y'
      refine ⟨fun h => wrX_not ?_, fun e h => ?_⟩
      · have c := wrP_none h
        rw [hl, hn, hs]; omega
      · obtain ⟨h1, h2⟩ := wrP_some h
        injection h1 with h1
        subst h1
        refine ⟨fun h => wrX_not ?_, fun h => wrX_not ?_, fun e' h => ?_⟩
        · rw [hl, hn, hs]; omega
        · have c := wrP_none h
          rw [hl, hn, hs]; omega
        · obtain ⟨h1', h2'⟩ := wrP_some h
          injection h1' with h1'
          subst h1'
          refine ⟨wrX_of ?_, both_tx op y y'⟩
          rw [hl, hn, hs]; omega

end Go.Proofs.YthgodhojhajahaaGreatDoor
