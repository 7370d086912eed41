/-
  Rows of tokens that the call owns; faults.
-/
import Derived.Test.YtkbfbcfgjgpfgaaDoorScY
import Derived.Laws.AppendOwn
import Derived.Laws.OwnMore
namespace Go.Proofs.YtkbfbcfgjgpfgaaDoor
open Go.RowKit

/-- A token's cells, a row's. -/
def tkC (t : Tk) : List Value := [.int .i64 t.kind, txV t.text, .int .i64 t.num, .int .i64 t.at_]
def tkCs (xs : List Tk) : List Value := xs.flatMap tkC

theorem tkCs_len (xs : List Tk) : (tkCs xs).length = xs.length * 4 := by
  induction xs with
  | nil => rfl
  | cons x xs ih => simp only [tkCs, List.flatMap_cons, List.length_append] at ih ⊢; simp [tkC, ih]; omega

theorem tkCs_snoc (xs : List Tk) (t : Tk) : tkCs (xs ++ [t]) = tkCs xs ++ tkC t := by simp [tkCs]

/-- A row of tokens that the call owns. -/
def TkRow (w : World) (B : Nat) (v : Value) (xs : List Tk) : Prop := w.ownsRow B 31 4 v xs.length (tkCs xs)

theorem TkRow.nil (w : World) (B : Nat) : TkRow w B (.slice none 0 0) [] := World.ownsRow_nil _ _ _ _

section
variable {w w' : World} {B : Nat} {v : Value} {xs : List Tk}
theorem TkRow.grown {row : Option Nat} (h : TkRow w B v xs) (hg : w.grownBy w' row) (hne : v.ownBlock = none ∨ v.ownBlock ≠ row) : TkRow w' B v xs := World.ownsRow.kept h hg hne
theorem TkRow.below (h : TkRow w B v xs) (hb : Below w.heap.size w w') : TkRow w' B v xs := World.ownsRow.kept h (row := none) ⟨hb.os, hb.tape, hb.output, hb.size, fun k hk _ => hb.block k hk⟩ (by cases v.ownBlock <;> simp)
theorem TkRow.alloc (h : TkRow w B v xs) (o : Obj) : TkRow (w.alloc o) B v xs := World.ownsRow.alloc h o
theorem TkRow.lt (h : TkRow w B v xs) : ∀ k, v.ownBlock = some k → B ≤ k ∧ k < w.heap.size := World.ownsRow.lt h
/-- A block of another type is not the row's. -/
theorem TkRow.ne (h : TkRow w B v xs) {g : Nat} {cs : Array Value} {t : TypeId} {fr : Nat × Nat} (hg : w.heap[g]? = some (.cells cs t fr)) (hne : t ≠ 31) : v.ownBlock ≠ some g := by
  rcases h.2 with ⟨rfl, _⟩ | ⟨g', cap, cur, rfl, _, hh, _⟩
  · simp [Value.ownBlock]
  · intro he
    have : g' = g := by simpa [Value.ownBlock] using he
    subst this
    rw [hh] at hg
    injection hg with hg
    injection hg with _ ht _
    exact hne ht.symm
theorem TkRow.mv {b : Nat} (h : TkRow w B v xs) (hm : Mv b w w') {cs : Array Value} {t : TypeId} {fr : Nat × Nat} (hg : w.heap[b]? = some (.cells cs t fr)) (hne : t ≠ 31) : TkRow w' B v xs := h.grown hm (.inr (h.ne hg hne))
end

theorem infoT : (Tryd.prog.info? 31).map (fun i => (i.zero, i.size, i.bytes)) = some (some (.agg #[.int .i64 0, .string ⟨#[]⟩, .int .i64 0, .int .i64 0]), 4, 40) := by kernel_rfl

theorem wpl_append_tk {w : World} {ops : Array Oper} {rest : List Oper} {o : Oper} {a : Act} {Q : Exit → Act → World → Prop} (hgd : o.guard = none) (s x : Operand)
    (ho : o.op = .call { callee := .builtin .append, args := #[s, x], argTypes := #[23, 23] })
    (base : Nat) (v : Value) (xs : List Tk) (hs : a.eval s = v) (hown : TkRow w base v xs) (t : Tk) (X : ByteArray) (hX : txV t.text = .string X)
    (hx : a.eval x = .slice (some ⟨w.heap.size, 0, none⟩) 1 1) (hn : xs.length ≤ 1000000000) (hbase : base ≤ w.heap.size)
    (h : ∀ v' w', TkRow w' base v' (xs ++ [t]) → (w.alloc (.cells #[.int .i64 t.kind, .string X, .int .i64 t.num, .int .i64 t.at_] 31)).grownBy w' v.ownBlock → wpList Tryd.prog ops Q rest (a.put o.dst v') w') :
    wpList Tryd.prog ops Q (o :: rest) a (w.alloc (.cells #[.int .i64 t.kind, .string X, .int .i64 t.num, .int .i64 t.at_] 31)) := by
  obtain ⟨i0, hi, hz0, hz1, hz2⟩ := info_parts infoT
  refine wpList_append_own _ hgd s x 23 ho base 31 i0 (.agg #[.int .i64 0, .string ⟨#[]⟩, .int .i64 0, .int .i64 0]) 4 40 Tryd.underlying23 hi hz0 hz1 hz2 rfl (by decide) v xs.length (tkCs xs) hs (World.ownsRow.alloc hown _) ⟨w.heap.size, 0, none⟩ 1 1 (tkC t) hx rfl ?_ ?_ (by unfold maxLen; omega) (by omega) (by simp; omega) ?_
  · intro j y hy
    rw [Addr.add_mid, Nat.zero_add, cell_of_row _ _ _ _ _ _ (heap_alloc_new w _)]
    rw [← hy, tkC, hX]
    simp
  · intro y hy
    simp only [tkC, List.mem_cons, List.not_mem_nil, or_false] at hy
    rcases hy with rfl | rfl | rfl | rfl <;> rfl
  · intro v' w' h1 h2 _
    refine h v' w' ?_ h2
    unfold TkRow
    rw [tkCs_snoc, List.length_append]
    exact h1

/-- A fault's block. -/
def FtB (w : World) (g : Nat) (x0 x1 : Value) : Prop := w.heap[g]? = some (.cells #[x0, x1] 26 (0, 0))

section
variable {w w' : World} {g : Nat} {x0 x1 : Value}
theorem FtB.lt (h : FtB w g x0 x1) : g < w.heap.size := by
  rcases Nat.lt_or_ge g w.heap.size with hlt | hge
  · exact hlt
  · unfold FtB at h; rw [Array.getElem?_eq_none hge] at h; cases h
theorem FtB.c0 (h : FtB w g x0 x1) : w.cell? ⟨g, 0, none⟩ = some x0 := cell_of_row w g 0 _ _ _ h
theorem FtB.c1 (h : FtB w g x0 x1) : w.cell? ⟨g, 1, none⟩ = some x1 := cell_of_row w g 1 _ _ _ h
theorem FtB.fr (h : FtB w g x0 x1) (i : Nat) : w.frozen? ⟨g, i, none⟩ = false := by
  unfold FtB at h
  simp [World.frozen?, h]
theorem FtB.below (h : FtB w g x0 x1) (hb : Below w.heap.size w w') : FtB w' g x0 x1 := (hb.block g h.lt).trans h
theorem FtB.alloc (h : FtB w g x0 x1) (o : Obj) : FtB (w.alloc o) g x0 x1 := (Below.heap_alloc w o g h.lt).trans h
theorem FtB.grown {row : Option Nat} (h : FtB w g x0 x1) (hb : w.grownBy w' row) (hn : some g ≠ row) : FtB w' g x0 x1 := (hb.block g h.lt hn).trans h
theorem FtB.new (w : World) (x0 x1 : Value) : FtB (w.alloc (.cells #[x0, x1] 26)) w.heap.size x0 x1 := heap_alloc_new w _
theorem FtB.all (h : FtB w g x0 x1) (y0 y1 : Value) : FtB ((w.setCell ⟨g, 0, none⟩ y0).setCell ⟨g, 1, none⟩ y1) g y0 y1 := heap_setCell_same (w.setCell ⟨g, 0, none⟩ y0) g 1 _ _ y1 (heap_setCell_same w g 0 _ _ y0 h)
theorem FtB.load (h : FtB w g x0 x1) : (loadVar 26 ⟨g, 0, none⟩).run Tryd.prog w = .ok (.agg #[x0, x1]) w :=
  run_loadVar_row w g _ _ _ _ _ h Tryd.underlying26 rfl (by kernel_rfl)
theorem FtB.res {fn : Func} {p t : Tmp} (hr : fn.results = #[.tmp t, .cell p 26]) (tmps : Array Value) (hp : tmps.getD p undef = .pointer (some ⟨g, 0, none⟩)) (h : FtB w g x0 x1) :
    (results fn tmps).run Tryd.prog w = .ok (.tuple #[tmps.getD t undef, .agg #[x0, x1]]) w := by
  have hp' : tmps[p]?.getD undef = .pointer (some ⟨g, 0, none⟩) := by simpa using hp
  simp [results, hr, hp', asAddr, h.load]
end

theorem below_two {B g : Nat} {u w : World} (h : Below B u w) (hB : B ≤ g) (y0 y1 : Value) : Below B u ((w.setCell ⟨g, 0, none⟩ y0).setCell ⟨g, 1, none⟩ y1) :=
  (h.setCell (p := ⟨g, 0, none⟩) hB y0).setCell (p := ⟨g, 1, none⟩) hB y1

theorem takeR_form (m : List UInt8) (q : Nat) : ∃ t : Tk, takeR m q = .tuple #[.agg #[.int .i64 t.kind, txV t.text, .int .i64 t.num, .int .i64 t.at_], .int .i64 (tkE m)] ∧ t = if tkE m = 0 then tkT m q else noTk := by
  refine ⟨_, ?_, rfl⟩
  rw [takeR]
  by_cases h : tkE m = 0
  · rw [if_pos h, if_pos h]; rfl
  · rw [if_neg h, if_neg h]; rfl

end Go.Proofs.YtkbfbcfgjgpfgaaDoor
