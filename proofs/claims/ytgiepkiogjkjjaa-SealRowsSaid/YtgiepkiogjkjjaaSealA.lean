/-
  The check sum: the program's Sum, and the document's.
-/
import Derived.Test.YtgiepkiogjkjjaaSum
namespace Go.Proofs.Ytgiepkiogjkjjaa
open Go.RowKit

theorem top_bits (y : Nat) (x : Int) (hy : y < 4294967296) (hx : 0 ≤ x ∧ x < 256) : bits .xor .u32 (y : Int) (x * 16777216) = ((y ^^^ x.toNat * 16777216 : Nat) : Int) := by
  have e2 : x * 16777216 = ((x.toNat * 16777216 : Nat) : Int) := by omega
  rw [e2]
  exact u32_xor_nat _ _ hy (by omega)

theorem poly_bits (y : Nat) (hy : y < 4294967296) (h : 2147483648 ≤ y) : bits .xor .u32 ((y : Int) * 2 % 4294967296) 79764919 = ((st y : Nat) : Int) := by
  have e := step_bits y hy
  have e2 : (y : Int) / 2147483648 * 79764919 % 4294967296 = 79764919 := by omega
  rw [e2] at e
  exact e

set_option maxHeartbeats 800000 in
set_option maxRecDepth 20000 in
theorem rsum_any (w : World) (a : Option Addr) (len cap : Nat) (bs : List Int) (h : Src w a len cap bs) :
    Calls Try.prog 13 #[.slice a len cap] w fun e w' => e = .returned (.int .i64 ((crcN bs : Nat) : Int)) ∧ w = w' := by
  have H := Lib.hid h
  have hsm := h.small
  clear h
  go_enter Try.func13, Try.ntmps13
  go_wp2_with fail
  go_loop [3, 4] (fun rv iv => ∃ (k r : Nat), k ≤ len ∧ iv = .int .i64 (k : Int) ∧ rv = .int .u32 (r : Int) ∧ Hid (r = crcR 4294967295 (bs.take k))) (fun _ iv => len - (intOf iv).toNat)
  case atStart => exact ⟨0, 4294967295, Nat.zero_le _, rfl, rfl, rfl⟩
  case round =>
    obtain ⟨k, r, hk, rfl, rfl, hr⟩ := hrel
    have HRL : Hid (r < 4294967296) := by
      rw [hr.out]
      exact crcR_lt _ _ (fun z hz => H.out.bytes z (List.mem_of_mem_take hz)) (by decide)
    by_cases hlt : k < len
    · obtain ⟨b, off, rfl, hcell⟩ : ∃ b off, a = some ⟨b, off, none⟩ ∧ ∀ i, i < bs.length → w.cell? ⟨b, off + i, none⟩ = some (.int .u8 (bs.getD i 0)) := by
        rcases H.out.reads with h | h
        · have := H.out.size; subst h; simp at this; omega
        · exact h
      obtain ⟨x, hx⟩ : ∃ x, x = bs.getD k 0 := ⟨_, rfl⟩
      have h1 : k < bs.length := by rw [H.out.size]; exact hlt
      have hcx : w.cell? ⟨b, off + k, none⟩ = some (.int .u8 x) := by rw [hx]; exact hcell k h1
      have hxr : 0 ≤ x ∧ x < 256 := by
        rw [hx]
        exact H.out.bytes _ (by simp [List.getD, List.getElem?_eq_getElem h1])
      obtain ⟨hx0, hx1⟩ := hxr
      obtain ⟨y0, hy0⟩ : ∃ y0, y0 = r ^^^ x.toNat * 16777216 := ⟨_, rfl⟩
      have HY0 : Hid (y0 < 4294967296) := by rw [hy0]; exact xor_top_lt HRL.out (by omega)
      have HR2 : Hid (stN 8 y0 = crcR 4294967295 (bs.take (k + 1))) := by
        unfold Hid
        rw [crcR_snoc _ _ _ h1, ← hr.out, ← hx, stN_eight, hy0]
        rfl
      have htb := top_bits r x HRL.out ⟨hx0, hx1⟩
      rw [← hy0] at htb
      clear hcell hx h1 hy0 hr
      go_wp2_with fail
      clear htb hcx
      go_loop [3, 5, 6] (fun rv iv _ => ∃ (j y : Nat), j ≤ 8 ∧ iv = .int .i64 (j : Int) ∧ rv = .int .u32 (y : Int) ∧ Hid (y = stN j y0)) (fun _ iv _ => 8 - (intOf iv).toNat)
      case atStart => exact ⟨0, y0, by omega, rfl, rfl, rfl⟩
      case round =>
        obtain ⟨j, y, hj, rfl, rfl, hy⟩ := hrel
        have HYL : Hid (y < 4294967296) := by rw [hy.out]; exact stN_lt HY0.out j
        by_cases hj8 : j < 8
        · have HY2 : Hid (st y = stN (j + 1) y0) := by rw [hy.out]; rfl
          by_cases htop : 2147483648 ≤ y
          · have hd : (y : Int) / 2147483648 = 1 := by have := HYL.out; omega
            have hp := poly_bits y HYL.out htop
            go_wp2_with fail
            go_round
            case rel => exact ⟨j + 1, st y, by omega, by go_num, rfl, HY2⟩
            case measure => simp [intOf]; omega
          · have hd : (y : Int) / 2147483648 = 0 := by have := HYL.out; omega
            have HP := Lib.hid (st_low (x := y) (by omega))
            go_wp2_with fail
            go_round
            case rel => exact ⟨j + 1, st y, by omega, by go_num, val_u32 (by rw [HP.out]; omega), HY2⟩
            case measure => simp [intOf]; omega
        · obtain rfl : j = 8 := by omega
          go_wp2_with fail
          go_round
          case rel => exact ⟨k + 1, y, by omega, by go_num, rfl, by rw [hy.out]; exact HR2⟩
          case measure => simp [intOf]; omega
    · obtain rfl : k = len := by omega
      have HF : Hid (r = crcR 4294967295 bs) := by
        have e := hr.out
        rw [List.take_of_length_le (by rw [H.out.size]; exact Nat.le_refl _)] at e
        exact e
      have hrl := HRL.out
      have HE : Hid ((4294967295 : Int) - r = ((crcN bs : Nat) : Int)) := by unfold Hid crcN; rw [← HF.out]; omega
      clear hr
      go_wp2_with fail
      go_ret
      exact ⟨ret_i64 HE.out, rfl⟩

/-- A table's cells as they are made. -/
def zero256 : Array Value := Array.replicate 256 (.int .u32 0)

theorem zeroTab (w : World) : (zeroValue 44).run Try.prog w = .ok (.agg zero256) w := by kernel_rfl

theorem TabCells.new : TabCells zero256 := ⟨by simp [zero256], fun i hi => .inl (by simp [zero256, hi])⟩

theorem TabAt.alloc (w : World) : TabAt (w.alloc (.cells zero256 44)) w.heap.size := ⟨zero256, heap_alloc_new w _, TabCells.new⟩

theorem Src.alloc {w : World} {a : Option Addr} {len cap : Nat} {bs : List Int} (h : Src w a len cap bs) (o : Obj) : Src (w.alloc o) a len cap bs :=
  h.below ((Below.refl _ w).alloc (Nat.le_refl _) o)

/-- What comes in lies ahead of what is made. -/
theorem Src.ahead {w : World} {a : Option Addr} {len cap : Nat} {bs : List Int} (h : Src w a len cap bs) {B : Nat} (hB : w.heap.size ≤ B) : bs ≠ [] → ∀ b off, a = some ⟨b, off, none⟩ → b ≠ B := by
  intro hne b off ha
  rcases h.reads with h0 | ⟨b2, off2, ha2, hc⟩
  · exact absurd h0 hne
  · have h1 := hc 0 (List.length_pos_iff.2 hne)
    have h2 := World.block_lt_of_cell? w _ h1
    rw [ha] at ha2
    simp at ha2
    simp at h2
    omega

/-- A row of slices of bytes, and what they lead to. -/
structure PartsIn (w : World) (pa : Option Addr) (ps : List Piece) : Prop where
  cells : ∀ i p, ps[i]? = some p → ∃ b off, pa = some ⟨b, off, none⟩ ∧ w.cell? ⟨b, off + i, none⟩ = some p.val
  srcs : ∀ p ∈ ps, Src w p.a p.len p.cap p.bs

theorem PartsIn.at {w : World} {pa : Option Addr} {ps : List Piece} (h : PartsIn w pa ps) (o : Obj) : PartsAt (w.alloc o) w.heap.size pa ps where
  cells := fun i p hp => by
    obtain ⟨b, off, ha, hc⟩ := h.cells i p hp
    have h2 := World.block_lt_of_cell? w _ hc
    refine ⟨b, off, ha, fun e => by subst e; exact absurd h2 (Nat.lt_irrefl _), ?_⟩
    rw [← hc]
    exact World.cell?_of_block (w := w) (Below.heap_alloc w _ b h2)
  srcs := fun p hp => ⟨(h.srcs p hp).alloc o, (h.srcs p hp).ahead (Nat.le_refl _)⟩

set_option maxRecDepth 20000 in
theorem ssum_any (w : World) (n cap : Nat) (pa : Option Addr) (ps : List Piece) (hP : PartsIn w pa ps) (hn : ps.length = n) (hs : n ≤ 1000000000000000) :
    Calls Try.prog 11 #[.slice pa n cap] w fun e w' => e = .returned (.int .i64 ((crcN (flat ps) : Nat) : Int)) ∧ Below w.heap.size w w' := by
  have HV := Lib.hid (tsum_any (w.alloc (.cells zero256 44)) w.heap.size n cap pa ps (TabAt.alloc w) (hP.at _) hn hs)
  have hz := zeroTab w
  have hc := crcN_lt (flat ps)
  generalize crcN (flat ps) = c at *
  clear hP hn
  go_enter Try.func11, Try.ntmps11
  go_wp2_with fail
  refine HV.out.mono ?_
  rintro e w1 ⟨rfl, -, ho⟩
  go_wp2_with fail
  go_ret
  exact ⟨rfl, ho.below⟩

end Go.Proofs.Ytgiepkiogjkjjaa
