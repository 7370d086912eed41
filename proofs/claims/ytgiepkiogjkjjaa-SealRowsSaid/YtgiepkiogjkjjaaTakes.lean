/-
  TakeUint and TakeInt.
-/
import Derived.Test.YtgiepkiogjkjjaaDecs
namespace Go.Proofs.Ytgiepkiogjkjjaa
open Go.RowKit

/-- Bytes that came in or were made: a slice's value and what it leads to. -/
structure Src (w : World) (a : Option Addr) (len cap : Nat) (bs : List Int) : Prop where
  reads : Reads w a bs
  size : bs.length = len
  small : len ≤ 1000000000000000
  caps : len ≤ cap ∧ cap ≤ maxLen
  bytes : ∀ x ∈ bs, 0 ≤ x ∧ x < 256

theorem Reads.alloc {w : World} {a : Option Addr} {bs : List Int} (h : Reads w a bs) (o : Obj) : Reads (w.alloc o) a bs := by
  rcases h with h | ⟨b, off, ha, hc⟩
  · exact .inl h
  · refine .inr ⟨b, off, ha, fun i hi => ?_⟩
    have h1 := hc i hi
    have h2 := World.block_lt_of_cell? w _ h1
    rw [← h1]
    exact World.cell?_of_block (w := w) (Below.heap_alloc w o b h2)

theorem DecAt.alloc (w : World) (a c : Int) (s : Value) : DecAt (w.alloc (.cells #[.int .i64 a, .int .i64 c, s] 62)) w.heap.size a c s := by
  unfold DecAt
  exact heap_alloc_new w _

theorem Src.dec {w : World} {a : Option Addr} {len cap : Nat} {bs : List Int} (h : Src w a len cap bs) :
    Dec (w.alloc (.cells #[.int .i64 0, .int .i64 0, .slice a len cap] 62)) w.heap.size 0 a len cap bs where
  blk := DecAt.alloc w 0 0 _
  reads := h.reads.alloc _
  size := h.size
  pos := Nat.zero_le _
  small := h.small
  caps := h.caps
  bytes := h.bytes
  apart := fun hne b off ha => by
    rcases h.reads with h0 | ⟨b2, off2, ha2, hc⟩
    · exact absurd h0 hne
    · have h1 := hc 0 (List.length_pos_iff.2 hne)
      have h2 := World.block_lt_of_cell? w _ h1
      rw [ha] at ha2
      simp at ha2
      simp at h2
      omega

theorem Only.below {w w' : World} {o : Obj} (h : Only w.heap.size (w.alloc o) w') : Below w.heap.size w w' :=
  ((Below.refl _ w).alloc (Nat.le_refl _) o).trans ⟨h.1.os, h.1.tape, h.1.output, h.1.size, fun k hk => h.1.block k (by simp; omega) (by simp; omega)⟩

theorem below_drawn {B : Nat} {w w' : World} (h : Below B w w') (n : Nat) : Below B w (w'.drewN n) := ⟨h.os, h.tape, h.output, h.size, h.block⟩

set_option maxRecDepth 20000 in
theorem takeUint_any (w : World) (a : Option Addr) (len cap : Nat) (bs : List Int) (h : Src w a len cap bs) :
    Calls Try.prog 32 #[.slice a len cap] w fun e w' =>
      e = .returned (.tuple #[.int .i64 ((tkF M63 true 0 0 bs).1 : Nat), .int .i64 ((tkF M63 true 0 0 bs).2.1 : Nat), .int .i64 (tkF M63 true 0 0 bs).2.2]) ∧ Below w.heap.size w w' := by
  have HV := Lib.hid (count_any _ _ _ _ _ _ _ h.dec)
  clear h
  simp only [List.drop_zero] at HV
  generalize tkF M63 true 0 0 bs = r at *
  go_enter Try.func32, Try.ntmps32
  go_wp2_with fail
  refine HV.out.mono ?_
  rintro e w1 ⟨rfl, hd, ho⟩
  have c0 := hd.c0
  have c1 := hd.c1
  have HO := Lib.hid ho.below
  clear hd ho HV
  go_wp2_with fail
  go_quiet (fail)
  go_wp2_with fail
  go_ret3
  exact ⟨rfl, below_drawn HO.out _⟩

end Go.Proofs.Ytgiepkiogjkjjaa
