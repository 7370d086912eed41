/-
  The law's own helpers Lent and Kept.
-/
import Derived.Test.YtgiepkiogjkjjaaRefS
import Derived.Laws.CopyOwn
namespace Go.Proofs.Ytgiepkiogjkjjaa
open Go.RowKit

/-- A block of bytes, known whole. -/
def BlockIs (w : World) (g : Nat) (xs : List Int) : Prop := w.heap[g]? = some (.cells (xs.map (Value.int .u8)).toArray 5 (0, 0))

theorem BlockIs.cell {w : World} {g : Nat} {xs : List Int} (h : BlockIs w g xs) (i : Nat) (hi : i < xs.length) : w.cell? ⟨g, i, none⟩ = some (.int .u8 (xs.getD i 0)) := by
  unfold BlockIs at h
  rw [cell_of_row w g i _ _ _ h]
  simp [List.getD, List.getElem?_eq_getElem hi]

theorem BlockIs.below {w w' : World} {B g : Nat} {xs : List Int} (h : BlockIs w g xs) (hb : Below B w w') (hg : g < B) : BlockIs w' g xs := by
  unfold BlockIs at h ⊢
  rw [hb.block g hg]; exact h

theorem BlockIs.lt {w : World} {g : Nat} {xs : List Int} (h : BlockIs w g xs) : g < w.heap.size := lt_of_block h

theorem BlockIs.src {w : World} {g : Nat} {xs : List Int} (h : BlockIs w g xs) (n : Nat) (hn : n ≤ xs.length) (hl : xs.length ≤ 1000000000000000 + 1) (hx : ∀ x ∈ xs, 0 ≤ x ∧ x < 256) (hn2 : n ≤ 1000000000000000 := by omega) :
    Src w (some ⟨g, 0, none⟩) n xs.length (xs.take n) := by
  refine ⟨.inr ⟨g, 0, rfl, fun i hi => ?_⟩, by simp; omega, by omega, ⟨hn, by unfold maxLen; omega⟩, fun x h => hx x (List.mem_of_mem_take h)⟩
  have h1 : i < n := by simp at hi; omega
  rw [Nat.zero_add, h.cell i (by omega)]
  simp [List.getD, h1]

theorem sizeU8 : (Try.prog.info? 5).map (·.size) = some 1 := by kernel_rfl

theorem row77 (n : Nat) (h : n ≤ 140737488351233) (w : World) :
    (Instr.makeSlice 22 (.int .i64 (n : Int)) (.int .i64 ((n : Int) + 1))).run Try.prog w =
      .ok (.slice (some ⟨w.heap.size, 0, none⟩) n (n + 1)) (w.alloc (.cells (List.replicate (n + 1) (Value.int .u8 0)).toArray 5)) := by
  obtain ⟨i0, hi, hz0, hz1, hz2⟩ := info_parts infoU8
  have h1 := run_make (P := Try.prog) w 22 5 i0 (.int .u8 0) Try.underlying22 hi hz0 .i64 .i64 (n : Int) ((n : Int) + 1) (by omega) (by omega) (by rw [hz2]; omega) (by omega)
  rw [h1, hz1]
  have e1 : ((n : Int) + 1).toNat = n + 1 := by omega
  rw [e1, Int.toNat_natCast]
  have e2 : madeCells (Value.int .u8 0).cells ((n + 1) * 1) = (List.replicate (n + 1) (Value.int .u8 0)).toArray := by
    apply Array.ext'
    rw [Nat.mul_one]
    show (madeCells #[Value.int .u8 0] (n + 1)).toList = _
    rw [toList_madeCells_one]
  rw [e2]

theorem splice_all (xs : List Int) : splice (List.replicate (xs.length + 1) (Value.int .u8 0)) 0 (xs.map (Value.int .u8)) = (xs ++ [0]).map (Value.int .u8) := by
  unfold splice
  simp [List.drop_replicate]

set_option maxHeartbeats 800000 in
set_option maxRecDepth 20000 in
theorem lent_any (w : World) (a : Option Addr) (len cap : Nat) (bs : List Int) (h : Src w a len cap bs) (hc : len ≤ 140737488351232) :
    Calls Try.prog 10 #[.slice a len cap] w fun e w' =>
      e = .returned (.slice (some ⟨w.heap.size, 0, none⟩) len (len + 1)) ∧ BlockIs w' w.heap.size (bs ++ [77]) ∧ Below w.heap.size w w' := by
  have H := Lib.hid h
  have hmk := row77 len (by omega) w
  have HSZ := h.size
  have HB0 := Lib.hid ((Below.refl w.heap.size w).alloc (Nat.le_refl _) (.cells (List.replicate (len + 1) (Value.int .u8 0)).toArray 5))
  have HCELL : Hid (∀ j v, (bs.map (Value.int .u8))[j]? = some v → ∃ b off, a = some ⟨b, off, none⟩ ∧ w.cell? ⟨b, off + j, none⟩ = some v) := by
    intro j v hj
    have hj2 : j < bs.length := by
      have := (List.getElem?_eq_some_iff.1 hj).1
      simpa using this
    rcases h.reads with h0 | ⟨b, off, ha, hcl⟩
    · subst h0; simp at hj2
    · refine ⟨b, off, ha, ?_⟩
      rw [hcl j hj2]
      rw [List.getElem?_map, List.getElem?_eq_getElem hj2] at hj
      simp only [Option.map_some, Option.some.injEq] at hj
      rw [← hj]; simp [List.getD, List.getElem?_eq_getElem hj2]
  have HS := Lib.hid HSZ
  clear h HSZ
  go_enter Try.func10, Try.ntmps10
  go_wp2_with (refine wpList_copy_splice rfl (.tmp 10) (.tmp 11) 22 22 rfl 5 Try.underlying22 sizeU8 _ _ _ _ _ _ rfl rfl w.heap.size 0 (List.replicate (len + 1) (Value.int .u8 0)) 5 (heap_alloc_new w _) (bs.map (Value.int .u8)) ?c1 ?c2 ?c3 ?c4 w.heap.size w HB0.out (Nat.le_refl _) ?_)
  case c1 => simp [HS.out]
  case c2 =>
    intro h0
    have hne : 0 < (bs.map (Value.int .u8)).length := by simpa using h0
    obtain ⟨b, off, ha, _⟩ := HCELL.out 0 _ (List.getElem?_eq_getElem hne)
    refine ⟨⟨b, off, none⟩, ha, fun j v hj => ?_⟩
    have hj2 : (bs.map (Value.int .u8))[j]? = some (.int .u8 v) := by rw [List.getElem?_map, hj]; rfl
    obtain ⟨b2, off2, ha2, hc2⟩ := HCELL.out j _ hj2
    rw [ha] at ha2
    simp only [Option.some.injEq, Addr.mk.injEq, and_true] at ha2
    obtain ⟨rfl, rfl⟩ := ha2
    rw [Addr.add_lit]
    have h2 := World.block_lt_of_cell? w _ hc2
    rw [← hc2]
    exact World.cell?_of_block (w := w) (Below.heap_alloc w _ b h2)
  case c3 => simp [HS.out]
  case c4 =>
    intro u hu
    obtain ⟨y, _, rfl⟩ := List.mem_map.1 hu
    rfl
  intro w2 hg2 hb2
  have hg3 : BlockIs w2 w.heap.size (bs ++ [0]) := by
    have e := hg2.out
    rw [← HS.out, splice_all] at e
    exact e
  have hcl : w2.cell? ⟨w.heap.size, len, none⟩ = some (.int .u8 0) := by
    rw [hg3.cell len (by simp [HS.out]), ← HS.out]
    simp [List.getD]
  have hfz : w2.frozen? ⟨w.heap.size, len, none⟩ = false := frozen_of_row w2 _ _ _ _ hg3
  have hg4 : BlockIs (w2.setCell ⟨w.heap.size, len, none⟩ (.int .u8 77)) w.heap.size (bs ++ [77]) := by
    have e := heap_setCell_row (i := len) (u := .int .u8 77) hg3
    unfold BlockIs
    rw [e, ← HS.out]
    congr 2
    apply Array.ext'
    simp
  have HG4 := Lib.hid hg4
  have HB2 := Lib.hid hb2
  clear hg2 hg3 hg4 hb2
  go_wp2_with fail
  go_ret
  exact ⟨rfl, HG4.out, HB2.out.setCell (Nat.le_refl _) _⟩

end Go.Proofs.Ytgiepkiogjkjjaa
