/-
  The decoder's other methods over its varint; TakeUint and TakeInt.
-/
import Derived.Test.YtgiepkiogjkjjaaDecv
import Derived.Laws.DeepNot64
namespace Go.Proofs.Ytgiepkiogjkjjaa
open Go.RowKit

/-- What a decoder has ahead of a call, in one word: its block, its bytes. -/
structure Dec (w : World) (B at0 : Nat) (a : Option Addr) (len cap : Nat) (bs : List Int) : Prop where
  blk : DecAt w B at0 0 (.slice a len cap)
  reads : Reads w a bs
  size : bs.length = len
  pos : at0 ≤ len
  small : len ≤ 1000000000000000
  caps : len ≤ cap ∧ cap ≤ maxLen
  bytes : ∀ x ∈ bs, 0 ≤ x ∧ x < 256
  apart : bs ≠ [] → ∀ b off, a = some ⟨b, off, none⟩ → b ≠ B

theorem ret_i64 {a b : Int} (h : a = b) : Ending.returned (.int .i64 a) = .returned (.int .i64 b) := by rw [h]

set_option maxRecDepth 20000 in
theorem count_any (w : World) (B at0 : Nat) (a : Option Addr) (len cap : Nat) (bs : List Int) (h : Dec w B at0 a len cap bs) :
    Calls Try.prog 38 #[.pointer (some ⟨B, 0, none⟩)] w fun e w' =>
      e = .returned (.int .i64 ((tkF M63 true 0 at0 (bs.drop at0)).1 : Nat)) ∧ DecAt w' B ((tkF M63 true 0 at0 (bs.drop at0)).2.1 : Nat) (tkF M63 true 0 at0 (bs.drop at0)).2.2 (.slice a len cap) ∧ Only B w w' := by
  have hv := varint_any w B at0 a len cap bs M63 (by decide) (by decide) h.blk h.reads h.size h.pos h.small h.bytes h.apart
  have hle := tkF_le (most := M63) (bs.drop at0) true 0 at0
  generalize tkF M63 true 0 at0 (bs.drop at0) = r at *
  have hw : IntKind.i64.wrap (r.1 : Int) = r.1 := IntWalk.i64_in _ ⟨by omega, by have : M63 = 9223372036854775807 := rfl; omega⟩
  have HV := Lib.hid hv
  clear hv hle h
  go_enter Try.func38, Try.ntmps38
  go_wp2_with fail
  refine HV.out.mono ?_
  rintro e w1 ⟨rfl, hd, ho⟩
  have HD := Lib.hid hd
  clear hd
  go_wp2_with fail
  go_ret
  exact ⟨ret_i64 (by simp), HD.out, ho⟩

theorem xor_zero (x : Int) (h0 : 0 ≤ x) (h : x < 9223372036854775808) : bits .xor .i64 x 0 = x := by
  have e : bits .xor .i64 x 0 = IntKind.i64.wrap x := by
    unfold bits; simp
    have e2 : x % 2 ^ IntKind.i64.bits = x := Int.emod_eq_of_lt h0 (by have : (2 : Int) ^ IntKind.i64.bits = 18446744073709551616 := by rfl
                                                                       omega)
    rw [e2]; congr 1; omega
  rw [e]
  exact IntWalk.i64_in _ ⟨by omega, by omega⟩

theorem xor_ones (x : Nat) (h : x < 9223372036854775808) : bits .xor .i64 (x : Int) (-1) = -(x : Int) - 1 := by
  have e : bits .xor .i64 (x : Int) (-1) = bits .xor .i64 (-1) (x : Int) := by simp only [bits, BitVec.xor_comm]
  rw [e, i64_not x h]; omega

theorem and_one (u : Nat) (h : u < 18446744073709551616) : bits .and .u64 (u : Int) 1 = ((u % 2 : Nat) : Int) := by
  have h2 := u64_and_nat u 1 h (by decide)
  rw [show ((1 : Int)) = ((1 : Nat) : Int) from rfl, h2, Nat.and_one_is_mod]

theorem unf_bits (u : Nat) (h : u < 2 ^ 64) : bits .xor .i64 ((u : Int) / 2) (-((u : Int) % 2)) = unf u := by
  have e1 : (u : Int) / 2 = ((u / 2 : Nat) : Int) := by omega
  unfold unf
  by_cases h2 : u % 2 = 0
  · have e2 : -((u : Int) % 2) = 0 := by omega
    rw [e1, e2, if_pos h2]
    exact xor_zero _ (by omega) (by omega)
  · have e2 : -((u : Int) % 2) = -1 := by omega
    rw [e1, e2, if_neg h2]
    exact xor_ones _ (by omega)

theorem nat_wrap {n : Nat} : (n : Int) = ((n : Nat) : Int) := rfl

end Go.Proofs.Ytgiepkiogjkjjaa
