/-
  The writer of expressions: a builder of text, and two numbers behind it.
-/
import Derived.Test.YthgodhojhajahaaGreatDoorXF
import Derived.Test.YthgodhojhajahaaGreatDoorEwA
import Derived.Lib.Builder
import Derived.Lib.AppendStr
import Derived.Lib.UnsafeStr
import Derived.Laws.Externs
namespace Go.Proofs.YthgodhojhajahaaGreatDoor
open Go.RowKit

/-- A writer that holds these bytes, so many nodes, so many levels. -/
def WB (w : World) (B b : Nat) (l : List UInt8) (n d : Nat) : Prop :=
  B ≤ b ∧ ∃ p v, (p = Value.pointer none ∨ p = .pointer (some ⟨b, 0, none⟩)) ∧ w.heap[b]? = some (.cells #[p, v, .int .i64 (n : Int), .int .i64 (d : Int)] 67 (0, 0)) ∧
    w.ownsRow B 5 1 v l.length (Lib.byteCells l) ∧ v.ownBlock ≠ some b

theorem heap_lt {w : World} {b : Nat} {o : Obj} (h : w.heap[b]? = some o) : b < w.heap.size := by
  rcases Nat.lt_or_ge b w.heap.size with hlt | hge
  · exact hlt
  · rw [Array.getElem?_eq_none hge] at h; cases h

section
variable {w w' : World} {B b : Nat} {l : List UInt8} {n d : Nat}

theorem WB.lt (h : WB w B b l n d) : b < w.heap.size := by
  obtain ⟨_, p, v, _, hb, _⟩ := h
  exact heap_lt hb

theorem WB.c2 (h : WB w B b l n d) : w.cell? ⟨b, 2, none⟩ = some (.int .i64 (n : Int)) := by
  obtain ⟨_, p, v, _, hb, _⟩ := h
  rw [Lib.cell_of_heap hb]; rfl
theorem WB.c3 (h : WB w B b l n d) : w.cell? ⟨b, 3, none⟩ = some (.int .i64 (d : Int)) := by
  obtain ⟨_, p, v, _, hb, _⟩ := h
  rw [Lib.cell_of_heap hb]; rfl
theorem WB.fr (h : WB w B b l n d) (i : Nat) : w.frozen? ⟨b, i, none⟩ = false := by
  obtain ⟨_, p, v, _, hb, _⟩ := h
  exact Lib.frozen_of_heap hb i

theorem owns_set {w : World} {B e b i : Nat} {v x : Value} {m : Nat} {xs : List Value} (h : w.ownsRow B e 1 v m xs) (hne : v.ownBlock ≠ some b) : (w.setCell ⟨b, i, none⟩ x).ownsRow B e 1 v m xs :=
  h.kept (row := some b) ⟨rfl, rfl, rfl, by simp [World.setCell], fun k _ hk => Below.heap_setCell _ _ _ _ (fun e => hk (by simp [e]))⟩ (Or.inr hne)

theorem WB.set2 (h : WB w B b l n d) (n' : Nat) : WB (w.setCell ⟨b, 2, none⟩ (.int .i64 (n' : Int))) B b l n' d := by
  obtain ⟨hB, p, v, hp, hb, ho, hne⟩ := h
  exact ⟨hB, p, v, hp, heap_setCell_same w b 2 _ _ _ hb, owns_set ho hne, hne⟩
theorem WB.set3 (h : WB w B b l n d) (d' : Nat) : WB (w.setCell ⟨b, 3, none⟩ (.int .i64 (d' : Int))) B b l n d' := by
  obtain ⟨hB, p, v, hp, hb, ho, hne⟩ := h
  exact ⟨hB, p, v, hp, heap_setCell_same w b 3 _ _ _ hb, owns_set ho hne, hne⟩
theorem WB.used (h : WB w B b l n d) : WB (w.setCell ⟨b, 0, none⟩ (.pointer (some ⟨b, 0, none⟩))) B b l n d := by
  obtain ⟨hB, p, v, hp, hb, ho, hne⟩ := h
  exact ⟨hB, _, v, .inr rfl, heap_setCell_same w b 0 _ _ _ hb, owns_set ho hne, hne⟩
theorem WB.drew (h : WB w B b l n d) : WB w.drew B b l n d := h

/-- Other blocks' doings. -/
theorem WB.alloc (h : WB w B b l n d) (o : Obj) : WB (w.alloc o) B b l n d := by
  have hlt := h.lt
  obtain ⟨hB, p, v, hp, hb, ho, hne⟩ := h
  exact ⟨hB, p, v, hp, (Below.heap_alloc w o b hlt).trans hb, ho.alloc _, hne⟩
theorem WB.below {u : World} (h : WB w B b l n d) (hb' : Below w.heap.size w u) : WB u B b l n d := by
  have hlt := h.lt
  obtain ⟨hB, p, v, hp, hb, ho, hne⟩ := h
  refine ⟨hB, p, v, hp, (hb'.block b hlt).trans hb, ?_, hne⟩
  refine ⟨ho.1, ?_⟩
  rcases ho.2 with hh | ⟨g, cap, cur, h1, h2, h3, h4⟩
  · exact .inl hh
  · exact .inr ⟨g, cap, cur, h1, h2, (hb'.block g (heap_lt h3)).trans h3, h4⟩
end

theorem WB.put {w : World} {B b : Nat} {l' : List UInt8} {n d : Nat} {p v v' : Value} (hB : B ≤ b) (hp : p = Value.pointer none ∨ p = .pointer (some ⟨b, 0, none⟩)) (hb : w.heap[b]? = some (.cells #[p, v, .int .i64 (n : Int), .int .i64 (d : Int)] 67 (0, 0)))
    (ho : w.ownsRow B 5 1 v' l'.length (Lib.byteCells l')) : WB (w.setCell ⟨b, 1, none⟩ v') B b l' n d := by
  have hne := Lib.ownBlock_ne ho hb (by decide)
  exact ⟨hB, p, v', hp, heap_setCell_same w b 1 _ _ _ hb, owns_set ho hne, hne⟩

/-- What the writing of text leaves: what is below B; and every block that is no row of bytes and isn't the writer's. -/
structure Wk (B b : Nat) (w w' : World) : Prop where
  below : Below B w w'
  keep : ∀ (g : Nat) (cs : Array Value) (T : TypeId) (fr : Nat × Nat), w.heap[g]? = some (.cells cs T fr) → g ≠ b → T ≠ 5 → w'.heap[g]? = some (.cells cs T fr)

section
variable {B b : Nat} {w w' w'' : World}
theorem Wk.refl (B b : Nat) (w : World) : Wk B b w w := ⟨Below.refl B w, fun _ _ _ _ h _ _ => h⟩
theorem Wk.trans (h : Wk B b w w') (h' : Wk B b w' w'') : Wk B b w w'' := ⟨h.below.trans h'.below, fun g cs T fr hg hn ht => h'.keep g cs T fr (h.keep g cs T fr hg hn ht) hn ht⟩
theorem Wk.of (hB : B ≤ w.heap.size) (h : Below w.heap.size w w') : Wk B b w w' := ⟨h.mono hB, fun _ _ _ _ hg _ _ => (h.block _ (heap_lt hg)).trans hg⟩
theorem Wk.set (hB : B ≤ b) (i : Nat) (x : Value) : Wk B b w (w.setCell ⟨b, i, none⟩ x) := ⟨(Below.refl B w).setCell (p := ⟨b, i, none⟩) hB x, fun g _ _ _ hg hn _ => (Below.heap_setCell w ⟨b, i, none⟩ x g hn).trans hg⟩
theorem Wk.alloc (hB : B ≤ w.heap.size) (o : Obj) : Wk B b w (w.alloc o) := Wk.of hB ((Below.refl _ w).alloc (Nat.le_refl _) o)
theorem Wk.size (h : Wk B b w w') : w.heap.size ≤ w'.heap.size := h.below.size
end

/-- A new writer. -/
theorem WB.new (w : World) : WB (w.alloc (.cells #[.pointer none, .slice none 0 0, .int .i64 0, .int .i64 0] 67)) w.heap.size w.heap.size [] 0 0 :=
  ⟨Nat.le_refl _, _, _, .inl rfl, heap_alloc_new w _, World.ownsRow_nil _ _ _ _, by simp [Value.ownBlock]⟩

set_option maxHeartbeats 1000000 in
set_option maxRecDepth 100000 in
theorem check_any (w : World) (B b : Nat) (l : List UInt8) (n d : Nat) (h : WB w B b l n d) :
    Calls Tryz.prog 79 #[.pointer (some ⟨b, 0, none⟩)] w fun e w' => e = .returned (.tuple #[]) ∧ WB w' B b l n d ∧ Wk B b w w' := by
  have HW := Lib.hid h
  obtain ⟨hB, p, v, hp, hb, _, _⟩ := h
  have h0 : w.cell? ⟨b, 0, none⟩ = some p := by rw [Lib.cell_of_heap hb]; rfl
  have hfr := HW.out.fr 0
  have hsh : w.shape? b = some (67, 4) := by simp [World.shape?, hb]
  obtain ⟨j, hj, hjs⟩ := Option.map_eq_some_iff.1 (show (Tryz.prog.info? 65).map (·.size) = some 2 by kernel_rfl)
  have HL : liesAt Tryz.prog Tryz.prog.depth 67 (4 / Tryz.prog.cellsOf 67) 0 65 1 = true := by kernel_rfl
  clear hb
  rcases hp with rfl | rfl
  · go_enter Tryz.func79, Tryz.ntmps79
    go_wp2
    rw [Lib.run_to_unsafe w ⟨b, 0, none⟩ Tryz.underlying62 Tryz.underlying151 hj (by rw [hjs]; decide) hsh (Nat.zero_lt_succ 3)]
    simp only [Result.andThen]
    rw [Oper.upon_value]
    go_wp2
    rw [run_callFunc_extern Tryz.func111 (by kernel_rfl) (by kernel_rfl) (by kernel_rfl) (e := Extern.AbiNoEscape.same) (by kernel_rfl)]
    rw [Lib.run_noEscape]
    simp only [Result.andThen]
    rw [Oper.upon_value]
    go_wp2
    rw [Lib.run_from_unsafe w ⟨b, 0, none⟩ Tryz.underlying151 Tryz.underlying62 hj hsh HL]
    simp only [Result.andThen]
    rw [Oper.upon_value]
    go_wp2
    go_end0
    exact ⟨rfl, HW.out.used, Wk.set hB 0 _⟩
  · go_enter Tryz.func79, Tryz.ntmps79
    go_wp2
    rw [Lib.run_neq_ptr_same w _ Tryz.underlying62 hj]
    go_wp2
    go_end0
    exact ⟨rfl, HW.out, Wk.refl B b w⟩

set_option maxHeartbeats 1000000 in
set_option maxRecDepth 100000 in
theorem blen_any (w : World) (B b : Nat) (l : List UInt8) (n d : Nat) (h : WB w B b l n d) :
    Calls Tryz.prog 64 #[.pointer (some ⟨b, 0, none⟩)] w fun e w' => e = .returned (.int .i64 l.length) ∧ w' = w := by
  obtain ⟨hB, p, v, hp, hb, hown, _⟩ := h
  obtain ⟨ao, cap, rfl⟩ : ∃ ao cap, v = .slice ao l.length cap := by
    rcases hown.2 with ⟨hv, h0⟩ | ⟨g, cap, cur, hv, _⟩
    · exact ⟨none, 0, by rw [hv, h0]⟩
    · exact ⟨_, _, hv⟩
  have c1 : w.cell? ⟨b, 1, none⟩ = some (.slice ao l.length cap) := by rw [Lib.cell_of_heap hb]; rfl
  clear hb hown hp
  go_enter Tryz.func64, Tryz.ntmps64
  go_wp2
  go_ret
  exact ⟨rfl, rfl⟩

set_option maxHeartbeats 2000000 in
set_option maxRecDepth 100000 in
theorem bwrite_any (w : World) (B b : Nat) (l : List UInt8) (n d : Nat) (s : ByteArray) (h : WB w B b l n d) (hlen : l.length + s.size ≤ 140737488355328) (hBw : B ≤ w.heap.size) :
    Calls Tryz.prog 63 #[.pointer (some ⟨b, 0, none⟩), .string s] w fun e w' => e = .returned (.tuple #[.int .i64 s.size, .nilIface]) ∧ WB w' B b (l ++ s.data.toList) n d ∧ Wk B b w w' := by
  obtain ⟨i0, hi, hz0, hz1, hz2⟩ := info_parts (show (Tryz.prog.info? 5).map (fun i => (i.zero, i.size, i.bytes)) = some (some (.int .u8 0), 1, 1) by kernel_rfl)
  have HC := Lib.hid (check_any w B b l n d h)
  clear h
  go_enter Tryz.func63, Tryz.ntmps63
  go_wp2_with (go_at_call 79; refine HC.out.mono ?_)
  rintro e w1 ⟨rfl, h1, hb1⟩
  obtain ⟨hB, p, v, hp, hbk, hown, hne⟩ := h1
  have c0 : w1.cell? ⟨b, 0, none⟩ = some p := by rw [Lib.cell_of_heap hbk]; rfl
  have c1 : w1.cell? ⟨b, 1, none⟩ = some v := by rw [Lib.cell_of_heap hbk]; rfl
  go_wp2_with (at_builtin; refine Lib.wpList_append_own_string _ rfl _ _ 63 9 rfl B 5 i0 Tryz.underlying63 Tryz.underlying9 hi hz0 hz1 hz2 _ _ _ rfl hown s rfl ?c3 ?c4 ?c5 ?_)
  case c3 => unfold maxLen; omega
  case c4 => omega
  case c5 => have := hb1.size; omega
  intro v' w2 hown' hgrow _
  have hlt : b < w1.heap.size := heap_lt hbk
  have hb2 : w2.heap[b]? = some (.cells #[p, v, .int .i64 (n : Int), .int .i64 (d : Int)] 67 (0, 0)) := by
    rw [hgrow.block b hlt (fun e => hne e.symm)]
    exact hbk
  have d0 : w2.cell? ⟨b, 0, none⟩ = some p := by rw [Lib.cell_of_heap hb2]; rfl
  have d1 : w2.cell? ⟨b, 1, none⟩ = some v := by rw [Lib.cell_of_heap hb2]; rfl
  have f1 : w2.frozen? ⟨b, 1, none⟩ = false := Lib.frozen_of_heap hb2 1
  obtain ⟨ao, n', cap, rfl⟩ : ∃ ao n' cap, v' = .slice ao n' cap := by
    rcases hown'.2 with ⟨hv, _⟩ | ⟨g, cap, cur, hv, _⟩
    · exact ⟨_, _, _, hv⟩
    · exact ⟨_, _, _, hv⟩
  go_wp2
  go_ret2
  refine ⟨rfl, ?_, ?_⟩
  · refine WB.put hB hp hb2 ?_
    rw [Lib.byteCells_append, List.length_append]
    exact hown'
  · refine hb1.trans (Wk.trans ⟨(Below.refl B w1).grown hgrow (by have := hb1.size; omega) (fun k hk => (hown.lt k hk).1), fun g cs T fr hg hn ht => ?_⟩ (Wk.set hB 1 _))
    rw [hgrow.block g (heap_lt hg) (fun e => ?_)]
    · exact hg
    · rcases hown.2 with ⟨rfl, _⟩ | ⟨g', cap', cur, rfl, _, hg', _⟩
      · simp [Value.ownBlock] at e
      · simp only [Value.ownBlock, Option.some.injEq] at e
        subst e
        rw [hg'] at hg
        injection hg with hg
        injection hg with _ hT _
        exact ht hT.symm

set_option maxHeartbeats 2000000 in
set_option maxRecDepth 100000 in
/-- What it holds, at least a byte. -/
theorem bstring_any (w : World) (B b : Nat) (l : List UInt8) (n d : Nat) (h : WB w B b l n d) (h0 : l ≠ []) :
    Calls Tryz.prog 27 #[.pointer (some ⟨b, 0, none⟩)] w fun e w' => e = .returned (.string ⟨l.toArray⟩) ∧ Below B w w' := by
  obtain ⟨hB, p, v, hp, hbk, hown, hne⟩ := h
  have hl0 : l.length ≠ 0 := by simpa using h0
  obtain ⟨g, cap, cur, rfl, hbg, hg, hnc, hcm, hcs, htake⟩ : ∃ g cap cur, v = .slice (some ⟨g, 0, none⟩) l.length cap ∧ B ≤ g ∧ w.heap[g]? = some (.cells cur 5 (0, 0)) ∧ l.length ≤ cap ∧ cap ≤ maxLen ∧ cur.size = cap * 1 ∧ cur.toList.take (l.length * 1) = Lib.byteCells l := by
    rcases hown.2 with ⟨_, hz⟩ | ⟨g, cap, cur, hv, r⟩
    · exact absurd hz hl0
    · exact ⟨g, cap, cur, hv, r⟩
  have c1 : w.drew.cell? ⟨b, 1, none⟩ = some (.slice (some ⟨g, 0, none⟩) l.length cap) := by
    have : w.drew.heap[b]? = some (.cells #[p, .slice (some ⟨g, 0, none⟩) l.length cap, .int .i64 (n : Int), .int .i64 (d : Int)] 67 (0, 0)) := hbk
    rw [Lib.cell_of_heap this]; rfl
  have hSD : (Builtin.unsafeSliceData_ #[63] 98 #[.slice (some ⟨g, 0, none⟩) l.length cap]).run Tryz.prog w.drew = .ok (.pointer (some ⟨g, 0, none⟩)) w.drew :=
    Lib.run_unsafeSliceData_row _ _ _ _ _ _ (by omega)
  have hUS : (Builtin.unsafeString_ #[98, 3] 9 #[.pointer (some ⟨g, 0, none⟩), .int .i64 l.length]).run Tryz.prog w.drew = .ok (.string ⟨l.toArray⟩) (w.drew.freeze ⟨g, 0, none⟩ l.length) := by
    refine Lib.run_unsafeString_row w.drew 98 3 9 5 Tryz.underlying98 (by kernel_rfl) g cur.size (by have hg' : w.drew.heap[g]? = some (.cells cur 5 (0, 0)) := hg; simp [World.shape?, hg']) l h0 (by omega) (by unfold maxLen at hcm; omega) ?_
    intro j x hx
    have := hown.cells (g := g) rfl j (.int .u8 x.toNat) (by simp [Lib.byteCells, hx])
    exact this
  clear hbk hown hg htake
  go_enter Tryz.func27, Tryz.ntmps27
  go_wp2
  go_region
  all_goals (go_wp2; go_ret; exact ⟨rfl, Lib.below_freeze (Below.drew (Below.refl B w)) (p := ⟨g, 0, none⟩) hbg _⟩)

end Go.Proofs.YthgodhojhajahaaGreatDoor
