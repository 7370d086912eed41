/-
  What the writer of expressions makes of any tree of data.
-/
import Derived.Test.YthgodhojhajahaaGreatDoorXE
namespace Go.Proofs.YthgodhojhajahaaGreatDoor

/-- How many nodes. -/
def Ex.size : Ex → Nat
  | .one _ x _ => 1 + x.size
  | .both _ x y => 1 + (x.size + y.size)
  | _ => 1

theorem par_ge (b : Bool) (s : List UInt8) : s.length ≤ (par b s).length := by
  cases b with
  | false => exact Nat.le_refl _
  | true => simp only [par, if_true, List.length_cons, List.length_append, List.length_nil]; omega

theorem Hd.len {t : List UInt8} (h : Hd t) : 1 ≤ t.length := by
  obtain ⟨c, r, rfl, _⟩ := h
  simp

theorem size_tx : ∀ e : Ex, e.fine → e.size ≤ e.tx.length
  | .int n p, h => (tx_Hd (.int n p) h).len
  | .var s p, h => (tx_Hd (.var s p) h).len
  | .inn s p, h => (tx_Hd (.inn s p) h).len
  | .one op x p, h => by
    have h1 := size_tx x h.2
    have h2 := par_ge x.isBoth x.tx
    show 1 + x.size ≤ (_ :: par x.isBoth x.tx).length
    rw [List.length_cons]
    omega
  | .both op x y, h => by
    have h1 := size_tx x h.2.1
    have h2 := size_tx y h.2.2
    have h3 := par_ge (decide (x.lev < rowOf op)) x.tx
    have h4 := par_ge (decide (y.lev ≤ rowOf op)) y.tx
    show 1 + (x.size + y.size) ≤ (par (decide (x.lev < rowOf op)) x.tx ++ 32 :: (sgOf op ++ 32 :: par (decide (y.lev ≤ rowOf op)) y.tx)).length
    simp only [List.length_append, List.length_cons]
    omega

/-- A node over what its parts are. -/
def node (k n : Int) (s : List UInt8) (o : Int) (l : List (Option Ex)) : Option Ex :=
  if k = 1 ∧ 0 ≤ n ∧ n ≤ 9223372036854775807 ∧ s = [] ∧ o = 0 ∧ l = [] then some (.int n 0)
  else if k = 2 ∧ n = 0 ∧ isNm s = true ∧ o = 0 ∧ l = [] then some (.var s 0)
  else if k = 3 ∧ n = 0 ∧ isNm s = true ∧ o = 0 ∧ l = [] then some (.inn s 0)
  else match l with
    | [some x] => if k = 4 ∧ n = 0 ∧ s = [] ∧ (o = 14 ∨ o = 15) then some (.one o x 0) else none
    | [some x, some y] => if k = 5 ∧ n = 0 ∧ s = [] ∧ rowOf o < 6 then some (.both o x y) else none
    | _ => none

mutual
/-- The right tree that a tree of data is, but for places. -/
def GX.ex : GX → Option Ex
  | .mk k n s o l _ => node k n s o (GX.exs l)
def GX.exs : List GX → List (Option Ex)
  | [] => []
  | x :: l => x.ex :: GX.exs l
end

mutual
/-- Its numbers are numbers. -/
def GX.rng : GX → Prop
  | .mk _ n s o l _ => (-9223372036854775808 ≤ n ∧ n ≤ 9223372036854775807) ∧ (-9223372036854775808 ≤ o ∧ o ≤ 9223372036854775807) ∧ s.length ≤ 140737488351232 ∧ GX.rngs l
def GX.rngs : List GX → Prop
  | [] => True
  | x :: l => x.rng ∧ GX.rngs l
end

theorem exs_one (x : GX) : GX.exs [x] = [x.ex] := by rw [GX.exs, GX.exs]
theorem exs_two (x y : GX) : GX.exs [x, y] = [x.ex, y.ex] := by rw [GX.exs, GX.exs, GX.exs]
theorem exs_nil : GX.exs [] = [] := by rw [GX.exs]
theorem ex_mk (k n : Int) (s : List UInt8) (o : Int) (l : List GX) (p : Int) : (GX.mk k n s o l p).ex = node k n s o (GX.exs l) := by rw [GX.ex]
theorem exs_len : ∀ l : List GX, (GX.exs l).length = l.length
  | [] => by rw [exs_nil]; rfl
  | x :: l => by rw [GX.exs, List.length_cons, List.length_cons, exs_len l]

theorem node_one (o : Int) (x : Ex) (h : o = 14 ∨ o = 15) : node 4 0 [] o [some x] = some (.one o x 0) := by
  unfold node
  rw [if_neg (fun h => absurd h.1 (by decide)), if_neg (fun h => absurd h.1 (by decide)), if_neg (fun h => absurd h.1 (by decide))]
  exact if_pos ⟨rfl, rfl, rfl, h⟩

theorem node_both (o : Int) (x y : Ex) (h : rowOf o < 6) : node 5 0 [] o [some x, some y] = some (.both o x y) := by
  unfold node
  rw [if_neg (fun h => absurd h.1 (by decide)), if_neg (fun h => absurd h.1 (by decide)), if_neg (fun h => absurd h.1 (by decide))]
  exact if_pos ⟨rfl, rfl, rfl, h⟩

theorem node_one_none (o : Int) : node 4 0 [] o [none] = none := by
  unfold node
  rw [if_neg (fun h => absurd h.1 (by decide)), if_neg (fun h => absurd h.1 (by decide)), if_neg (fun h => absurd h.1 (by decide))]

theorem node_both_none (o : Int) (x y : Option Ex) (h : x = none ∨ y = none) : node 5 0 [] o [x, y] = none := by
  unfold node
  rw [if_neg (fun h => absurd h.1 (by decide)), if_neg (fun h => absurd h.1 (by decide)), if_neg (fun h => absurd h.1 (by decide))]
  rcases h with rfl | rfl
  · rfl
  · cases x <;> rfl

/-- Has a node a form that a right tree's node has? -/
def nodeOk (k n : Int) (s : List UInt8) (o : Int) (m : Nat) : Bool :=
  if k = 1 then decide (o = 0) && decide (m = 0) && decide (0 ≤ n) && decide (s = [])
  else if k = 2 ∨ k = 3 then decide (o = 0) && decide (m = 0) && decide (n = 0) && isNm s
  else if k = 4 then decide (n = 0) && decide (s = []) && (decide (o = 14) || decide (o = 15)) && decide (m = 1)
  else if k = 5 then decide (n = 0) && decide (s = []) && decide (rowOf o < 6) && decide (m = 2)
  else false

theorem node_bad {k n : Int} {s : List UInt8} {o : Int} {l : List (Option Ex)} (h : nodeOk k n s o l.length = false) : node k n s o l = none := by
  unfold node
  unfold nodeOk at h
  by_cases h1 : k = 1
  · rw [if_pos h1] at h
    rw [if_neg (by rintro ⟨_, a, _, b, c, d⟩; subst b; subst c; subst d; simp [a] at h), if_neg (by omega), if_neg (by omega)]
    split
    · rw [if_neg (by omega)]
    · rw [if_neg (by omega)]
    · rfl
  · rw [if_neg h1] at h
    by_cases h2 : k = 2 ∨ k = 3
    · rw [if_pos h2] at h
      rw [if_neg (by omega), if_neg (by rintro ⟨_, a, b, c, d⟩; subst a; subst c; subst d; simp [b] at h), if_neg (by rintro ⟨_, a, b, c, d⟩; subst a; subst c; subst d; simp [b] at h)]
      split
      · rw [if_neg (by omega)]
      · rw [if_neg (by omega)]
      · rfl
    · rw [if_neg h2] at h
      rw [if_neg (by omega), if_neg (by omega), if_neg (by omega)]
      by_cases h4 : k = 4
      · rw [if_pos h4] at h
        split
        · rw [if_neg (by rintro ⟨_, a, b, c⟩; subst a; subst b; simp at h; omega)]
        · rw [if_neg (by omega)]
        · rfl
      · rw [if_neg h4] at h
        split
        · rw [if_neg (by omega)]
        · rw [if_neg (by rintro ⟨c, a, b, d⟩; subst a; subst b; subst c; simp at h; omega)]
        · rfl

theorem gx_ex : ∀ e : Ex, e.fine → e.gx.ex = some e.er
  | .int n p, h => by
    show GX.ex (.mk 1 n [] 0 [] p) = _
    rw [ex_mk, exs_nil]
    unfold node
    rw [if_pos ⟨rfl, h.1, h.2, rfl, rfl, rfl⟩]
    rfl
  | .var s p, h => by
    show GX.ex (.mk 2 0 s 0 [] p) = _
    rw [ex_mk, exs_nil]
    unfold node
    rw [if_neg (by omega), if_pos ⟨rfl, rfl, h, rfl, rfl⟩]
    rfl
  | .inn s p, h => by
    show GX.ex (.mk 3 0 s 0 [] p) = _
    rw [ex_mk, exs_nil]
    unfold node
    rw [if_neg (by omega), if_neg (by omega), if_pos ⟨rfl, rfl, h, rfl, rfl⟩]
    rfl
  | .one op x p, h => by
    show GX.ex (.mk 4 0 [] op [x.gx] p) = _
    rw [ex_mk, exs_one, gx_ex x h.2, node_one _ _ h.1]
    rfl
  | .both op x y, h => by
    show GX.ex (.mk 5 0 [] op [x.gx, y.gx] _) = _
    rw [ex_mk, exs_two, gx_ex x h.2.1, gx_ex y h.2.2, node_both _ _ _ h.1]
    rfl

theorem node_some {k n : Int} {s : List UInt8} {o : Int} {l : List (Option Ex)} {e : Ex} (h : node k n s o l = some e) :
    (k = 1 ∧ 0 ≤ n ∧ n ≤ 9223372036854775807 ∧ s = [] ∧ o = 0 ∧ l = [] ∧ e = .int n 0) ∨ (k = 2 ∧ n = 0 ∧ isNm s = true ∧ o = 0 ∧ l = [] ∧ e = .var s 0) ∨ (k = 3 ∧ n = 0 ∧ isNm s = true ∧ o = 0 ∧ l = [] ∧ e = .inn s 0) ∨
    (∃ x, k = 4 ∧ n = 0 ∧ s = [] ∧ (o = 14 ∨ o = 15) ∧ l = [some x] ∧ e = .one o x 0) ∨ (∃ x y, k = 5 ∧ n = 0 ∧ s = [] ∧ rowOf o < 6 ∧ l = [some x, some y] ∧ e = .both o x y) := by
  unfold node at h
  split at h
  · rename_i c
    exact .inl ⟨c.1, c.2.1, c.2.2.1, c.2.2.2.1, c.2.2.2.2.1, c.2.2.2.2.2, (Option.some.inj h).symm⟩
  · split at h
    · rename_i c
      exact .inr (.inl ⟨c.1, c.2.1, c.2.2.1, c.2.2.2.1, c.2.2.2.2, (Option.some.inj h).symm⟩)
    · split at h
      · rename_i c
        exact .inr (.inr (.inl ⟨c.1, c.2.1, c.2.2.1, c.2.2.2.1, c.2.2.2.2, (Option.some.inj h).symm⟩))
      · match l, h with
        | [some x], h =>
          have h' : (if k = 4 ∧ n = 0 ∧ s = [] ∧ (o = 14 ∨ o = 15) then some (Ex.one o x 0) else none) = some e := h
          split at h'
          · rename_i c
            exact .inr (.inr (.inr (.inl ⟨x, c.1, c.2.1, c.2.2.1, c.2.2.2, rfl, (Option.some.inj h').symm⟩)))
          · cases h'
        | [some x, some y], h =>
          have h' : (if k = 5 ∧ n = 0 ∧ s = [] ∧ rowOf o < 6 then some (Ex.both o x y) else none) = some e := h
          split at h'
          · rename_i c
            exact .inr (.inr (.inr (.inr ⟨x, y, c.1, c.2.1, c.2.2.1, c.2.2.2, rfl, (Option.some.inj h').symm⟩)))
          · cases h'
        | [], h => cases h
        | [none], h => cases h
        | [none, _], h => cases h
        | [some _, none], h => cases h
        | none :: _ :: _ :: _, h => cases h
        | some _ :: none :: _ :: _, h => cases h
        | some _ :: some _ :: _ :: _, h => cases h

theorem exs_is_one {l : List GX} {a : Option Ex} (h : GX.exs l = [a]) : ∃ x, l = [x] ∧ x.ex = a := by
  match l, h with
  | [], h => rw [exs_nil] at h; cases h
  | [x], h => rw [exs_one] at h; exact ⟨x, rfl, List.head_eq_of_cons_eq h⟩
  | x :: y :: l, h =>
    have := exs_len (x :: y :: l)
    rw [h] at this
    simp at this

theorem exs_is_two {l : List GX} {a b : Option Ex} (h : GX.exs l = [a, b]) : ∃ x y, l = [x, y] ∧ x.ex = a ∧ y.ex = b := by
  match l, h with
  | [], h => rw [exs_nil] at h; cases h
  | [x], h => rw [exs_one] at h; cases h
  | [x, y], h =>
    rw [exs_two] at h
    simp only [List.cons.injEq, and_true] at h
    exact ⟨x, y, rfl, h.1, h.2⟩
  | x :: y :: z :: l, h =>
    have := exs_len (x :: y :: z :: l)
    rw [h] at this
    simp at this

theorem exs_is_nil {l : List GX} (h : GX.exs l = []) : l = [] := by
  have := exs_len l
  rw [h] at this
  exact List.eq_nil_of_length_eq_zero this.symm

/-- The tree is right, and is that of the data but for its places. -/
theorem ex_some : ∀ (x : GX) (e : Ex), x.ex = some e → e.fine ∧ e.er = e ∧ x.er = e.gx
  | .mk k n s o l p, e, h => by
    rw [ex_mk] at h
    rcases node_some h with ⟨rfl, a, b, rfl, rfl, c, rfl⟩ | ⟨rfl, rfl, a, rfl, c, rfl⟩ | ⟨rfl, rfl, a, rfl, c, rfl⟩ | ⟨x, rfl, rfl, rfl, a, c, rfl⟩ | ⟨x, y, rfl, rfl, rfl, a, c, rfl⟩
    · obtain rfl := exs_is_nil c
      exact ⟨⟨a, b⟩, rfl, by rw [GX.er, GX.ers]; rfl⟩
    · obtain rfl := exs_is_nil c
      exact ⟨a, rfl, by rw [GX.er, GX.ers]; rfl⟩
    · obtain rfl := exs_is_nil c
      exact ⟨a, rfl, by rw [GX.er, GX.ers]; rfl⟩
    · obtain ⟨z, rfl, hz⟩ := exs_is_one c
      have ih := ex_some z x hz
      refine ⟨⟨a, ih.1⟩, by rw [Ex.er, ih.2.1], ?_⟩
      rw [GX.er, GX.ers, GX.ers, ih.2.2]
      rfl
    · obtain ⟨z, z', rfl, hz, hz'⟩ := exs_is_two c
      have ih := ex_some z x hz
      have ih' := ex_some z' y hz'
      refine ⟨⟨a, ih.1, ih'.1⟩, by rw [Ex.er, ih.2.1, ih'.2.1], ?_⟩
      rw [GX.er, GX.ers, GX.ers, GX.ers, ih.2.2, ih'.2.2]
      show GX.mk 5 0 [] o [x.gx, y.gx] 0 = GX.mk 5 0 [] o [x.gx, y.gx] x.pos
      rw [← ih.2.1, er_pos]
  termination_by x => SizeOf.sizeOf x

/-- The tree whose text stays within the limits. -/
def GX.right (x : GX) : Option Ex := match x.ex with
  | some e => if e.nst ≤ 20 ∧ e.tx.length ≤ 16384 then some e else none
  | none => none

/-- Its text; empty, where it isn't right. -/
def GX.txt (x : GX) : List UInt8 := match x.right with
  | some e => e.tx
  | none => []

/-- What the writer does at a tree, behind so many nodes, so deep, behind so many bytes. -/
def wrX (x : Option Ex) (n d L : Nat) : Option Ex := match x with
  | some e => if d + e.nst ≤ 20 ∧ L + e.tx.length ≤ 16384 ∧ n + e.size ≤ 16384 then some e else none
  | none => none

theorem wrX_right (x : GX) : wrX x.ex 0 0 0 = x.right := by
  unfold GX.right wrX
  cases h : x.ex with
  | none => rfl
  | some e =>
    have := size_tx e (ex_some x e h).1
    simp only [Nat.zero_add]
    by_cases c : e.nst ≤ 20 ∧ e.tx.length ≤ 16384
    · rw [if_pos c, if_pos ⟨c.1, c.2, by omega⟩]
    · rw [if_neg c, if_neg (fun hh => c ⟨hh.1, hh.2.1⟩)]

/-- What it does at a part, in parentheses or not. -/
def wrP (b : Bool) (x : Option Ex) (n d L : Nat) : Option Ex := match x with
  | some e => if d + ((if b = true then 1 else 0) + e.nst) ≤ 20 ∧ L + (par b e.tx).length ≤ 16384 ∧ n + e.size ≤ 16384 then some e else none
  | none => none

theorem wrP_not (x : Option Ex) (n d L : Nat) : wrP false x n d L = wrX x n d L := by
  cases x with
  | none => rfl
  | some e => simp only [wrP, wrX, Bool.false_eq_true, if_false, Nat.zero_add, par]

theorem rng_get : ∀ {l : List GX} {j : Nat} {x : GX}, GX.rngs l → l[j]? = some x → x.rng
  | [], j, x, _, h => by simp at h
  | y :: l, 0, x, hr, h => by
    rw [GX.rngs] at hr
    have : y = x := by simpa using h
    rw [← this]
    exact hr.1
  | y :: l, j + 1, x, hr, h => by
    rw [GX.rngs] at hr
    exact rng_get hr.2 (by simpa using h)

end Go.Proofs.YthgodhojhajahaaGreatDoor
