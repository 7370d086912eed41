/-
  Bytes that came in: what is told of them, and how they stay.
-/
import Derived.Test.YtgiepkiogjkjjaaPure2
namespace Go.Proofs.Ytgiepkiogjkjjaa
open Go.RowKit

theorem src_of_row {w : World} {a : Option Addr} {len cap : Nat} {zs : List Int} (h : IsRow .u8 w a len cap zs) (hs : cap * 1 ≤ 140737488351232) : Src w a len cap (zs.take len) := by
  rcases h with ⟨rfl, rfl, rfl, rfl⟩ | ⟨x, rfl, hl, hm, hz, hc, hw⟩
  · exact ⟨.inl rfl, rfl, by omega, ⟨by omega, by omega⟩, by simp⟩
  · refine ⟨?_, by simp; omega, by omega, ⟨hl, hm⟩, ?_⟩
    · by_cases h0 : len = 0
      · subst h0; exact .inl rfl
      · obtain ⟨b, off, spot⟩ := x
        have hspot : spot = none := by simpa [Addr.add] using World.cell?_spot (hc 0 (by omega))
        subst hspot
        refine .inr ⟨b, off, rfl, fun i hi => ?_⟩
        have h1 : i < len := by simp at hi; omega
        have h2 := hc i (by omega)
        rw [Addr.add_lit] at h2
        rw [h2]
        simp [List.getD, h1]
    · intro y hy
      have := byte_range (hw y (List.mem_of_mem_take hy))
      omega

theorem Src.below {w w' : World} {a : Option Addr} {len cap : Nat} {bs : List Int} (h : Src w a len cap bs) (hb : Below w.heap.size w w') : Src w' a len cap bs := by
  refine ⟨?_, h.size, h.small, h.caps, h.bytes⟩
  rcases h.reads with h0 | ⟨b, off, ha, hc⟩
  · exact .inl h0
  · refine .inr ⟨b, off, ha, fun i hi => ?_⟩
    have h1 := hc i hi
    have h2 := World.block_lt_of_cell? w _ h1
    rw [← h1]
    exact World.cell?_of_block (w := w) (hb.block b h2)

/-- The text of a slice's front. -/
theorem Src.front {w : World} {a : Option Addr} {len cap : Nat} {bs : List Int} (h : Src w a len cap bs) (k c' : Nat) (hk : k ≤ len) :
    (convert 22 9 (.slice a k c')).run Try.prog w = .ok (.string (strOfNums (bs.take k))) w := by
  rcases h.reads with h0 | ⟨b, off, rfl, hc⟩
  · have hz : k = 0 := by have := h.size; subst h0; simp at this; omega
    subst h0; subst hz
    cases a with
    | none => exact run_convert_bytes_nil w 22 5 Try.underlying22 Try.underlying5 0 c' 9 Try.underlying9
    | some x =>
      rw [run_convert_bytes_string w 22 9 5 _ 0 c' Try.underlying22 Try.underlying5 Try.underlying9]
      rw [run_bytesToString w x 0 c' [] (by simpa using run_loadCells_list (P := Try.prog) w x [] (fun j v hj => by simp at hj))]
      rfl
  · refine run_convert_bytes_arg w 22 5 Try.underlying22 Try.underlying5 b off k c' (bs.take k) (by have := h.size; simp; omega) (fun i hi => ?_) 9 Try.underlying9
    rw [hc i (by have := h.size; omega)]
    simp [List.getD, hi]

theorem Src.heap {w w' : World} {a : Option Addr} {len cap : Nat} {bs : List Int} (h : Src w a len cap bs) (hb : w'.heap = w.heap) : Src w' a len cap bs := by
  refine ⟨?_, h.size, h.small, h.caps, h.bytes⟩
  rcases h.reads with h0 | ⟨b, off, ha, hc⟩
  · exact .inl h0
  · exact .inr ⟨b, off, ha, fun i hi => by rw [← hc i hi]; exact World.cell?_of_block (w := w) (by rw [hb])⟩

theorem ownsRow_heap {w w' : World} {B : Nat} {e : TypeId} {size : Nat} {v : Value} {n : Nat} {xs : List Value} (h : w.ownsRow B e size v n xs) (hb : w'.heap = w.heap) : w'.ownsRow B e size v n xs := by
  unfold World.ownsRow at h ⊢
  rw [hb]; exact h

theorem below_drewd {B : Nat} {w w' w'' : World} (h : Below B w w') (k : Below w'.heap.size w'.drew w'') (hB : B ≤ w'.heap.size := by simp) : Below B w w'' :=
  h.drew.trans (k.mono hB)

theorem str_self (s : ByteArray) : (s.toList == s.toList) = true := by simp

end Go.Proofs.Ytgiepkiogjkjjaa
