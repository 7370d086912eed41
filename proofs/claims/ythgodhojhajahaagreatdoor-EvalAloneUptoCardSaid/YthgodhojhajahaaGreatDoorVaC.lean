/-
  Rows of strings, of integers, that the call makes: appends onto a row of its own that is full.
-/
import Derived.Test.YthgodhojhajahaaGreatDoorVaI
import Derived.Laws.OwnMore
import Derived.Laws.AppendOwnNone
import Derived.ArgAppend
import Derived.Maps.AppendAt
import Derived.Deep.RegionLawGrows
namespace Go.Proofs.YthgodhojhajahaaGreatDoor
open Go.RowKit

theorem infoStr : (Tryz.prog.info? 9).map (fun i => (i.zero, i.size, i.bytes)) = some (some (.string ⟨#[]⟩), 1, 16) := by kernel_rfl
theorem infoInt : (Tryz.prog.info? 3).map (fun i => (i.zero, i.size, i.bytes)) = some (some (.int .i64 0), 1, 8) := by kernel_rfl

theorem run_append_zero {P : Program} {w : World} (t ty e : TypeId) (i : TypeInfo) (ht : P.underlying t = some (.slice e)) (hi : P.info? e = some i) (b : Addr) (n cap : Nat) (hnc : n ≤ cap) (A : Option Addr) (c : Nat) :
    (Builtin.append_ #[t, t] ty #[.slice (some b) n cap, .slice A 0 c]).run P w = .ok (.slice (some b) n cap) w := by
  cases A <;> simp [Builtin.append_, run_underlying ht, sizeOf, typeInfo, hi, Builtin.lenOf, Builtin.firstCells, hnc, storeCells, loadCells, loadCellsFrom]

/-- Cells lie there. -/
def CellsAt (w : World) (A : Option Addr) (news : List Value) : Prop := ∀ (j : Nat) (u : Value), news[j]? = some u → ∃ g o, A = some ⟨g, o, none⟩ ∧ w.cell? ⟨g, o + j, none⟩ = some u

/-- A row of the call's own that is full. -/
def FullAt (w : World) (e : TypeId) (g : Nat) (olds : List Value) : Prop := w.heap[g]? = some (.cells olds.toArray e (0, 0))

theorem FullAt.below {w w' : World} {e : TypeId} {g : Nat} {olds : List Value} (h : FullAt w e g olds) (hb : Below w.heap.size w w') : FullAt w' e g olds := (hb.block g (Array.getElem?_eq_some_iff.1 h).1).trans h

theorem below_of_grown {w w' : World} (h : w.grownBy w' none) : Below w.heap.size w w' := by
  exact ⟨h.os, h.tape, h.output, h.size, fun i hi => h.block i hi (by simp)⟩

/-- append(row, news..), run. -/
theorem run_app {P : Program} {w : World} (t ty e : TypeId) (i : TypeInfo) (z : Value) (bytes : Nat) (h1 : P.underlying t = some (.slice e)) (h2 : P.info? e = some i) (h3 : i.zero = some z) (h4 : i.size = 1) (h5 : i.bytes = bytes) (h6 : z.cells.size = 1)
    (g k : Nat) (olds : List Value) (hk : olds.length = k) (hf : FullAt w e g olds) (A : Option Addr) (m c : Nat) (news : List Value) (hm : news.length = m) (hn : CellsAt w A news) (ho : ∀ u ∈ news, u.oneCell' = true)
    (b1 : k + m ≤ maxLen) (b2 : (k + m) * bytes ≤ 140737488355328) (base : Nat) (hb : base ≤ g) (hbw : base ≤ w.heap.size) :
    ∃ v' w', (Builtin.append_ #[t, t] ty #[.slice (some ⟨g, 0, none⟩) k k, .slice A m c]).run P w = .ok v' w' ∧ w'.ownsRow base e 1 v' (k + m) (olds ++ news) ∧ Below w.heap.size w w' := by
  by_cases h0 : m = 0
  · subst h0
    obtain rfl : news = [] := List.eq_nil_of_length_eq_zero hm
    refine ⟨_, w, run_append_zero t ty e i h1 h2 _ k k (Nat.le_refl _) A c, ?_, Below.refl _ w⟩
    rw [List.append_nil, Nat.add_zero]
    refine ⟨by rw [Nat.mul_one]; exact hk, .inr ⟨g, k, olds.toArray, rfl, hb, hf, Nat.le_refl _, by omega, by rw [Nat.mul_one]; simpa using hk, ?_⟩⟩
    rw [Nat.mul_one]
    exact List.take_of_length_le (by rw [hk]; exact Nat.le_refl _)
  · obtain ⟨u, hu⟩ : ∃ u, news[0]? = some u := ⟨_, List.getElem?_eq_getElem (by omega)⟩
    obtain ⟨gg, o, rfl, _⟩ := hn 0 u hu
    obtain ⟨v', w', hr, r1, r2⟩ := run_append_arg_grows (P := P) (w := w) t ty e i z 1 bytes h1 h2 h3 h4 h5 h6 (by omega) ⟨g, 0, none⟩ k k olds (by rw [hk, Nat.mul_one]) (fun j u hu => by
        rw [Addr.add_lit, Nat.zero_add, cell_of_row _ _ _ _ _ _ hf]
        simpa using hu) ⟨gg, o, none⟩ m c news (by rw [hm, Nat.mul_one]) (fun j u hu => by
        obtain ⟨g2, o2, e2, hc⟩ := hn j u hu
        injection e2 with e2
        injection e2 with e3 e4
        subst e3 e4
        rw [Addr.add_lit]
        exact hc) (by omega) b1 b2
    refine ⟨v', w', hr, ⟨r1.1, ?_⟩, below_of_grown r2⟩
    rcases r1.2 with r | ⟨g', cap, cur, r3, r4, r5⟩
    · exact .inl r
    · exact .inr ⟨g', cap, cur, r3, by omega, r5⟩

/-- A row of strings of the call's own. -/
def StRow (w : World) (base : Nat) (v : Value) (xs : List ByteArray) : Prop := w.ownsRow base 9 1 v xs.length (xs.map .string)
/-- .. of integers. -/
def InRow (w : World) (base : Nat) (v : Value) (xs : List Int) : Prop := w.ownsRow base 3 1 v xs.length (xs.map (.int .i64))

theorem ownsRow_below {w w' : World} {base : Nat} {e : TypeId} {s : Nat} {v : Value} {n : Nat} {xs : List Value} (h : w.ownsRow base e s v n xs) (hb : Below w.heap.size w w') : w'.ownsRow base e s v n xs := by
  refine ⟨h.1, ?_⟩
  rcases h.2 with h2 | ⟨g, cap, cur, a1, a2, a3, a4⟩
  · exact .inl h2
  · exact .inr ⟨g, cap, cur, a1, a2, (hb.block g (Array.getElem?_eq_some_iff.1 a3).1).trans a3, a4⟩
theorem StRow.below {w w' : World} {base : Nat} {v : Value} {xs : List ByteArray} (h : StRow w base v xs) (hb : Below w.heap.size w w') : StRow w' base v xs := ownsRow_below h hb
theorem InRow.below {w w' : World} {base : Nat} {v : Value} {xs : List Int} (h : InRow w base v xs) (hb : Below w.heap.size w w') : InRow w' base v xs := ownsRow_below h hb

theorem StRow.str {w : World} {base : Nat} {v : Value} {xs : List ByteArray} (h : StRow w base v xs) : ∃ A c, v = .slice A xs.length c ∧ xs.length ≤ c ∧ c ≤ maxLen ∧ StrAt w A xs ∧ ∀ g o sp, A = some ⟨g, o, sp⟩ → base ≤ g ∧ g < w.heap.size := by
  rcases h.2 with ⟨hv, h0⟩ | ⟨g, cap, cur, hv, hb, hg, hnc, hcm, hcs, htk⟩
  · obtain rfl : xs = [] := List.eq_nil_of_length_eq_zero h0
    exact ⟨none, 0, hv, Nat.le_refl _, Nat.zero_le _, fun i s hs => by simp at hs, fun g o sp e => by cases e⟩
  · have hlt : g < w.heap.size := (Array.getElem?_eq_some_iff.1 hg).1
    refine ⟨some ⟨g, 0, none⟩, cap, hv, hnc, hcm, fun i s hs => ⟨g, 0, rfl, hlt, ?_⟩, fun g' o sp e => by injection e with e; injection e with e1; subst e1; exact ⟨hb, hlt⟩⟩
    have hc := World.ownsRow.cells h (show v.ownBlock = some g by rw [hv]; rfl) i (.string s) (by rw [List.getElem?_map, hs]; rfl)
    rw [Addr.add_lit] at hc
    exact hc
theorem InRow.ints {w : World} {base : Nat} {v : Value} {xs : List Int} (h : InRow w base v xs) : ∃ A c, v = .slice A xs.length c ∧ xs.length ≤ c ∧ c ≤ maxLen ∧ IntAt w A xs ∧ ∀ g o sp, A = some ⟨g, o, sp⟩ → base ≤ g ∧ g < w.heap.size := by
  rcases h.2 with ⟨hv, h0⟩ | ⟨g, cap, cur, hv, hb, hg, hnc, hcm, hcs, htk⟩
  · obtain rfl : xs = [] := List.eq_nil_of_length_eq_zero h0
    exact ⟨none, 0, hv, Nat.le_refl _, Nat.zero_le _, fun i s hs => by simp at hs, fun g o sp e => by cases e⟩
  · have hlt : g < w.heap.size := (Array.getElem?_eq_some_iff.1 hg).1
    refine ⟨some ⟨g, 0, none⟩, cap, hv, hnc, hcm, fun i s hs => ⟨g, 0, rfl, hlt, ?_⟩, fun g' o sp e => by injection e with e; injection e with e1; subst e1; exact ⟨hb, hlt⟩⟩
    have hc := World.ownsRow.cells h (show v.ownBlock = some g by rw [hv]; rfl) i (.int .i64 s) (by rw [List.getElem?_map, hs]; rfl)
    rw [Addr.add_lit] at hc
    exact hc

theorem StrAt.cells {w : World} {A : Option Addr} {xs : List ByteArray} (h : StrAt w A xs) : CellsAt w A (xs.map .string) := fun j u hu => by
  rw [List.getElem?_map] at hu
  obtain ⟨s, hs, rfl⟩ := Option.map_eq_some_iff.1 hu
  obtain ⟨g, o, e, _, hc⟩ := h j s hs
  exact ⟨g, o, e, hc⟩
theorem IntAt.cells {w : World} {A : Option Addr} {xs : List Int} (h : IntAt w A xs) : CellsAt w A (xs.map (.int .i64)) := fun j u hu => by
  rw [List.getElem?_map] at hu
  obtain ⟨s, hs, rfl⟩ := Option.map_eq_some_iff.1 hu
  obtain ⟨g, o, e, _, hc⟩ := h j s hs
  exact ⟨g, o, e, hc⟩

/-- append([]string{olds..}, xs...), run. -/
theorem run_app_str {w : World} (ty : TypeId) (g k : Nat) (olds : List ByteArray) (hk : olds.length = k) (hf : FullAt w 9 g (olds.map .string)) (A : Option Addr) (m c : Nat) (xs : List ByteArray) (hm : xs.length = m) (hx : StrAt w A xs) (b2 : (k + m) * 16 ≤ 140737488355328) (base : Nat) (hb : base ≤ g) :
    ∃ v' w', (Builtin.append_ #[25, 25] ty #[.slice (some ⟨g, 0, none⟩) k k, .slice A m c]).run Tryz.prog w = .ok v' w' ∧ StRow w' base v' (olds ++ xs) ∧ Below w.heap.size w w' := by
  obtain ⟨i0, hi, hz0, hz1, hz2⟩ := info_parts infoStr
  have hg : g < w.heap.size := (Array.getElem?_eq_some_iff.1 hf).1
  obtain ⟨v', w', h1, h2, h3⟩ := run_app (P := Tryz.prog) (w := w) 25 ty 9 i0 (.string ⟨#[]⟩) 16 Tryz.underlying25 hi hz0 hz1 hz2 rfl g k (olds.map .string) (by simpa using hk) hf A m c (xs.map .string) (by simpa using hm) hx.cells
    (fun u hu => by obtain ⟨s, _, rfl⟩ := List.mem_map.1 hu; rfl) (by unfold maxLen; omega) b2 base hb (by omega)
  refine ⟨v', w', h1, ?_, h3⟩
  unfold StRow
  rw [List.map_append, List.length_append, hk, hm]
  exact h2
/-- append([]int{olds..}, xs...), run. -/
theorem run_app_int {w : World} (ty : TypeId) (g k : Nat) (olds : List Int) (hk : olds.length = k) (hf : FullAt w 3 g (olds.map (.int .i64))) (A : Option Addr) (m c : Nat) (xs : List Int) (hm : xs.length = m) (hx : IntAt w A xs) (b2 : (k + m) * 8 ≤ 140737488355328) (base : Nat) (hb : base ≤ g) :
    ∃ v' w', (Builtin.append_ #[26, 26] ty #[.slice (some ⟨g, 0, none⟩) k k, .slice A m c]).run Tryz.prog w = .ok v' w' ∧ InRow w' base v' (olds ++ xs) ∧ Below w.heap.size w w' := by
  obtain ⟨i0, hi, hz0, hz1, hz2⟩ := info_parts infoInt
  have hg : g < w.heap.size := (Array.getElem?_eq_some_iff.1 hf).1
  obtain ⟨v', w', h1, h2, h3⟩ := run_app (P := Tryz.prog) (w := w) 26 ty 3 i0 (.int .i64 0) 8 Tryz.underlying26 hi hz0 hz1 hz2 rfl g k (olds.map (.int .i64)) (by simpa using hk) hf A m c (xs.map (.int .i64)) (by simpa using hm) hx.cells
    (fun u hu => by obtain ⟨s, _, rfl⟩ := List.mem_map.1 hu; rfl) (by unfold maxLen; omega) b2 base hb (by omega)
  refine ⟨v', w', h1, ?_, h3⟩
  unfold InRow
  rw [List.map_append, List.length_append, hk, hm]
  exact h2

theorem list_app {P : Program} {w : World} {ops : Array Oper} {rest : List Oper} {o : Oper} {a : Act} {Q : Exit → Act → World → Prop} (hg : o.guard = none) (s x : Operand) (t : TypeId)
    (hop : o.op = Op.call { callee := Callee.builtin Builtin.append, args := #[s, x], argTypes := #[t, t] }) (sv xv : Value) (hs : a.eval s = sv) (hx : a.eval x = xv) {R : Value → World → Prop}
    (h : ∃ v' w', (Builtin.append_ #[t, t] o.type #[sv, xv]).run P w = .ok v' w' ∧ R v' w') (hK : ∀ v' w', R v' w' → wpList P ops Q rest (a.put o.dst v') w') : wpList P ops Q (o :: rest) a w := by
  refine wpList_plain hg fun K hK' => ?_
  obtain ⟨v', w', hrun, r⟩ := h
  unfold Oper.wp
  simp [execOp, hop, resolve, invoke, builtin, hs, hx, hrun, Result.andThen]
  exact hK' _ _ (hK v' w' r)

theorem step_app {P : Program} {ops : Array Oper} {o : Oper} {a : Act} {w : World} {K : Act → World → Prop} {Q : Exit → Act → World → Prop} {E : Prop} (hg : o.guard = none) (s x : Operand) (t : TypeId)
    (hop : o.op = Op.call { callee := Callee.builtin Builtin.append, args := #[s, x], argTypes := #[t, t] }) (sv xv : Value) (hs : a.eval s = sv) (hx : a.eval x = xv) {R : Value → World → Prop}
    (h : ∃ v' w', (Builtin.append_ #[t, t] o.type #[sv, xv]).run P w = .ok v' w' ∧ R v' w') (hK : ∀ v' w', R v' w' → K (a.put o.dst v') w') :
    if Region.wanted o (yielded ops a.tmps) = true then Oper.wp P o a w K Q else E := by
  have hw : Region.wanted o (yielded ops a.tmps) = true := by simp [Region.wanted, hg]
  rw [if_pos hw]
  obtain ⟨v', w', hrun, r⟩ := h
  unfold Oper.wp
  simp [execOp, hop, resolve, invoke, builtin, hs, hx, hrun, Result.andThen]
  exact hK v' w' r

set_option maxHeartbeats 400000 in
set_option maxRecDepth 20000 in
theorem copied6_any (w : World) (A : Option Addr) (n c : Nat) (xs : List ByteArray) (hl : xs.length = n) (hx : StrAt w A xs) (hb : n * 16 ≤ 140737488351232) :
    Calls Tryz.prog 9 #[.slice A n c] w fun e w' => ∃ v, e = .returned v ∧ StRow w' w.heap.size v xs ∧ Below w.heap.size w w' := by
  have HF : Hid (FullAt (w.alloc (.cells #[] 9)) 9 w.heap.size (([] : List ByteArray).map .string)) := heap_alloc_new w _
  have HBA : Hid (Below w.heap.size w (w.alloc (.cells #[] 9))) := (Below.refl _ w).alloc (Nat.le_refl _) _
  have HR := Lib.hid (run_app_str (w := w.alloc (.cells #[] 9)) 25 w.heap.size 0 [] rfl HF.out A n c xs hl (hx.below HBA.out) (by omega) w.heap.size (Nat.le_refl _))
  clear hl hx hb
  go_enter Tryz.func9, Tryz.ntmps9
  go_wp2_with (at_builtin; refine list_app rfl (.tmp 3) (.tmp 4) 25 rfl _ _ rfl rfl HR.out ?_)
  intro v' w' h1 h2
  have HB2 := Lib.hid (HBA.out.trans (h2.mono (Nat.le_succ _)))
  have HS := Lib.hid h1
  clear h1 h2
  go_wp2_with fail
  go_ret
  exact ⟨_, rfl, HS.out, HB2.out⟩

end Go.Proofs.YthgodhojhajahaaGreatDoor
