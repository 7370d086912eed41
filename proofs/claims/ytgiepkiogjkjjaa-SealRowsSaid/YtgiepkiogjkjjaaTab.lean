/-
  The table of the check sum: what eight shifts make of a byte on top, looked up or reckoned.
-/
import Derived.Test.YtgiepkiogjkjjaaSame
import Derived.Test.YtgiepkiogjkjjaaCrc
import Derived.StillTailTactics
namespace Go.Proofs.Ytgiepkiogjkjjaa
open Go.RowKit

/-- So many steps. -/
def stN : Nat → Nat → Nat
  | 0, x => x
  | n + 1, x => st (stN n x)

theorem stN_lt {x : Nat} (h : x < 4294967296) : ∀ n, stN n x < 4294967296
  | 0 => h
  | n + 1 => st_lt (stN_lt h n)

theorem stN_eight (x : Nat) : stN 8 x = sh8 x := rfl

theorem step_bits (x : Nat) (h : x < 4294967296) : bits .xor .u32 ((x : Int) * 2 % 4294967296) ((x : Int) / 2147483648 * 79764919 % 4294967296) = ((st x : Nat) : Int) := by
  have e1 : (x : Int) * 2 % 4294967296 = ((2 * x % 4294967296 : Nat) : Int) := by omega
  have hb : x / 2147483648 * 79764919 < 4294967296 := by
    have : x / 2147483648 ≤ 1 := by omega
    have : x / 2147483648 * 79764919 ≤ 1 * 79764919 := Nat.mul_le_mul_right _ this
    omega
  have e2 : (x : Int) / 2147483648 * 79764919 % 4294967296 = ((x / 2147483648 * 79764919 : Nat) : Int) := by omega
  rw [e1, e2, u32_xor_nat _ _ (by omega) hb]
  rfl

theorem val_u32 {a b : Int} (h : a = b) : Value.int .u32 a = .int .u32 b := by rw [h]
theorem ret_u32 {a b : Int} (h : a = b) : Ending.returned (.int .u32 a) = .returned (.int .u32 b) := by rw [h]

set_option maxRecDepth 20000 in
theorem shift_any (b : Nat) (w : World) (hb : b < 256) :
    Calls Try.prog 36 #[.int .u8 (b : Int)] w fun e w' => e = .returned (.int .u32 (sh8 (b * 16777216) : Nat)) ∧ w = w' := by
  obtain ⟨x, hx⟩ : ∃ x, x = b * 16777216 := ⟨_, rfl⟩
  have HX := Lib.hid hx
  have HXL : Hid (x < 4294967296) := by unfold Hid; omega
  clear hx
  rw [← HX.out]
  go_enter Try.func36, Try.ntmps36
  go_wp2
  go_loop [3, 4, 8] (fun r _ i => ∃ k : Nat, k ≤ 8 ∧ i = .int .i64 (k : Int) ∧ ∃ y : Nat, Hid (y = stN k x) ∧ r = .int .u32 (y : Int)) (fun _ _ i => 8 - (intOf i).toNat)
  case atStart => exact ⟨0, by omega, rfl, x, rfl, val_u32 (by rw [HX.out]; simp)⟩
  case round =>
    obtain ⟨k, hk, rfl, y, hy, rfl⟩ := hrel
    by_cases hlt : k < 8
    · have HS : Hid (bits .xor .u32 ((y : Int) * 2 % 4294967296) ((y : Int) / 2147483648 * 79764919 % 4294967296) = ((stN (k + 1) x : Nat) : Int)) := by
        have e := hy.out
        subst e
        exact step_bits _ (stN_lt HXL.out k)
      go_wp2
      go_round
      case rel => exact ⟨k + 1, by omega, by go_num, _, rfl, val_u32 HS.out⟩
      case measure => simp [intOf]; omega
    · obtain rfl : k = 8 := by omega
      have HE : Hid (y = sh8 x) := hy.out.trans (stN_eight x)
      go_wp2
      go_ret
      exact ⟨ret_u32 (by rw [HE.out]), rfl⟩

/-- What a cell of the table may hold: nothing yet, or what eight shifts make of its place on top. -/
def TabCells (cur : Array Value) : Prop := cur.size = 256 ∧ ∀ i, i < 256 → cur[i]? = some (.int .u32 0) ∨ cur[i]? = some (.int .u32 ((sh8 (i * 16777216) : Nat) : Int))

/-- A table's block. -/
def TabAt (w : World) (B : Nat) : Prop := ∃ cur : Array Value, w.heap[B]? = some (.cells cur 44 (0, 0)) ∧ TabCells cur

theorem TabAt.lt {w : World} {B : Nat} (h : TabAt w B) : B < w.heap.size := by
  obtain ⟨cur, h, _⟩ := h
  exact lt_of_block h

theorem TabCells.set {cur : Array Value} (h : TabCells cur) (b : Nat) : TabCells (cur.setIfInBounds b (.int .u32 ((sh8 (b * 16777216) : Nat) : Int))) := by
  refine ⟨by simpa using h.1, fun i hi => ?_⟩
  by_cases e : b = i
  · subst e
    right
    simp [h.1, hi]
  · rw [Array.getElem?_setIfInBounds_ne e]
    exact h.2 i hi

theorem TabAt.drewN {w : World} {B : Nat} (h : TabAt w B) (n : Nat) : TabAt (w.drewN n) B := h

set_option maxRecDepth 20000 in
theorem shifted_any (w : World) (B b : Nat) (hb : b < 256) (h : TabAt w B) :
    Calls Try.prog 28 #[.pointer (some ⟨B, 0, none⟩), .int .u8 (b : Int)] w fun e w' =>
      e = .returned (.int .u32 (sh8 (b * 16777216) : Nat)) ∧ TabAt w' B ∧ Only B w w' := by
  have H := Lib.hid h
  obtain ⟨cur, hblk, hcs⟩ := h
  obtain ⟨s, hs⟩ : ∃ s, s = sh8 (b * 16777216) := ⟨_, rfl⟩
  have HF : Hid (∀ i, w.frozen? ⟨B, i, none⟩ = false) := fun i => frozen_of_row w B i _ _ hblk
  have HC : w.cell? ⟨B, b, none⟩ = some (.int .u32 0) ∨ w.cell? ⟨B, b, none⟩ = some (.int .u32 (s : Int)) := by
    rw [cell_of_row w B b _ _ _ hblk, hs]
    exact hcs.2 b hb
  have HT : Hid (TabAt (w.setCell ⟨B, b, none⟩ (.int .u32 (s : Int))) B) := ⟨_, heap_setCell_row hblk, by rw [hs]; exact hcs.set b⟩
  have HSH : Hid (∀ w, Calls Try.prog 36 #[.int .u8 (b : Int)] w fun e w' => e = .returned (.int .u32 (s : Int)) ∧ w' = w) := fun w => (shift_any b w hb).mono fun e w' h => ⟨by rw [hs]; exact h.1, h.2.symm⟩
  have HS := Lib.hid hs
  have HSL : Hid (s < 4294967296) := by rw [hs]; exact sh8_lt (by omega)
  clear hcs hblk hs
  rw [← HS.out]
  have hf := HF.out b
  have hb' : (b : Int) < 256 := by omega
  rcases HC with hc | hc
  · go_enter Try.func28, Try.ntmps28
    go_wp2_with fail
    refine wp_region_still_tail 6 (by kernel_rfl) (by kernel_rfl) ?_
    simp only [List.take_succ_cons, List.take_zero, List.drop_succ_cons, List.drop_zero]
    still_step
    still_step
    still_step
    still_call (HSH.out _)
    still_step
    still_step
    refine wpStill_nil ?_
    go_wp2_with fail
    go_ret
    exact ⟨rfl, HT.out, ((Only.refl B w).set b _).drew⟩
  · by_cases h0 : (s : Int) = 0
    · have HZ := Lib.hid h0
      rw [h0] at hc
      clear h0
      go_enter Try.func28, Try.ntmps28
      go_wp2_with fail
      refine wp_region_still_tail 6 (by kernel_rfl) (by kernel_rfl) ?_
      simp only [List.take_succ_cons, List.take_zero, List.drop_succ_cons, List.drop_zero]
      still_step
      still_step
      still_step
      still_call (HSH.out _)
      still_step
      still_step
      refine wpStill_nil ?_
      go_wp2_with fail
      go_ret
      exact ⟨rfl, HT.out, ((Only.refl B w).set b _).drew⟩
    · have hne : ((s : Int) == 0) = false := by rw [beq_eq_false_iff_ne]; exact h0
      go_enter Try.func28, Try.ntmps28
      go_wp2_with fail
      go_ret
      exact ⟨rfl, H.out, Only.refl _ _⟩

end Go.Proofs.Ytgiepkiogjkjjaa
