/-
  The decoder's other methods over its varint; TakeUint and TakeInt.
-/
import Derived.Test.YtkjcdndlhjacfaaDecv
import Derived.Laws.DeepNot64
namespace Go.Proofs.Ytkjcdndlhjacfaa
open Go.RowKit

/-- What a decoder has ahead of a call, in one word: its block, its bytes. -/
structure Dec (w : World) (B at0 : Nat) (a : Option Addr) (len cap : Nat) (bs : List Int) : Prop where
  blk : DecAt w B at0 0 (.slice a len cap)
  reads : Reads w a bs
  size : bs.length = len
  pos : at0 ≤ len
  small : len ≤ 1000000000000000
  caps : len ≤ cap ∧ cap ≤ maxLen
  bytes : ∀ x ∈ bs, 0 ≤ x ∧ x < 256
  apart : bs ≠ [] → ∀ b off, a = some ⟨b, off, none⟩ → b ≠ B

theorem ret_i64 {a b : Int} (h : a = b) : Ending.returned (.int .i64 a) = .returned (.int .i64 b) := by rw [h]

set_option maxRecDepth 20000 in
theorem count_any (w : World) (B at0 : Nat) (a : Option Addr) (len cap : Nat) (bs : List Int) (h : Dec w B at0 a len cap bs) :
    Calls Try.prog 32 #[.pointer (some ⟨B, 0, none⟩)] w fun e w' =>
      e = .returned (.int .i64 ((tkF M63 true 0 at0 (bs.drop at0)).1 : Nat)) ∧ DecAt w' B ((tkF M63 true 0 at0 (bs.drop at0)).2.1 : Nat) (tkF M63 true 0 at0 (bs.drop at0)).2.2 (.slice a len cap) ∧ Only B w w' := by
  have hv := varint_any w B at0 a len cap bs M63 (by decide) (by decide) h.blk h.reads h.size h.pos h.small h.bytes h.apart
  have hle := tkF_le (most := M63) (bs.drop at0) true 0 at0
  generalize tkF M63 true 0 at0 (bs.drop at0) = r at *
  have hw : IntKind.i64.wrap (r.1 : Int) = r.1 := IntWalk.i64_in _ ⟨by omega, by have : M63 = 9223372036854775807 := rfl; omega⟩
  have HV := Lib.hid hv
  clear hv hle h
  go_enter Try.func32, Try.ntmps32
  go_wp2_with fail
  refine HV.out.mono ?_
  rintro e w1 ⟨rfl, hd, ho⟩
  have HD := Lib.hid hd
  clear hd
  go_wp2_with fail
  go_ret
  exact ⟨ret_i64 (by simp), HD.out, ho⟩

theorem xor_zero (x : Int) (h0 : 0 ≤ x) (h : x < 9223372036854775808) : bits .xor .i64 x 0 = x := by
  have e : bits .xor .i64 x 0 = IntKind.i64.wrap x := by
    unfold bits; simp
    have e2 : x % 2 ^ IntKind.i64.bits = x := Int.emod_eq_of_lt h0 (by have : (2 : Int) ^ IntKind.i64.bits = 18446744073709551616 := by rfl
                                                                       omega)
    rw [e2]; congr 1; omega
  rw [e]
  exact IntWalk.i64_in _ ⟨by omega, by omega⟩

theorem xor_ones (x : Nat) (h : x < 9223372036854775808) : bits .xor .i64 (x : Int) (-1) = -(x : Int) - 1 := by
  have e : bits .xor .i64 (x : Int) (-1) = bits .xor .i64 (-1) (x : Int) := by simp only [bits, BitVec.xor_comm]
  rw [e, i64_not x h]; omega

theorem and_one (u : Nat) (h : u < 18446744073709551616) : bits .and .u64 (u : Int) 1 = ((u % 2 : Nat) : Int) := by
  have h2 := u64_and_nat u 1 h (by decide)
  rw [show ((1 : Int)) = ((1 : Nat) : Int) from rfl, h2, Nat.and_one_is_mod]

theorem unf_bits (u : Nat) (h : u < 2 ^ 64) : bits .xor .i64 ((u : Int) / 2) (-((u : Int) % 2)) = unf u := by
  have e1 : (u : Int) / 2 = ((u / 2 : Nat) : Int) := by omega
  unfold unf
  by_cases h2 : u % 2 = 0
  · have e2 : -((u : Int) % 2) = 0 := by omega
    rw [e1, e2, if_pos h2]
    exact xor_zero _ (by omega) (by omega)
  · have e2 : -((u : Int) % 2) = -1 := by omega
    rw [e1, e2, if_neg h2]
    exact xor_ones _ (by omega)

set_option maxRecDepth 20000 in
theorem unfold_any (u : Nat) (w : World) (hu : u < 2 ^ 64) :
    Calls Try.prog 41 #[.int .u64 (u : Int)] w fun e w' => e = .returned (.int .i64 (unf u)) ∧ w = w' := by
  have h1 := and_one u (by omega)
  have h2 : IntKind.i64.wrap ((u : Int) / 2) = ((u / 2 : Nat) : Int) := IntWalk.i64_in _ ⟨by omega, by omega⟩
  have X := Lib.hid (unf_bits u hu)
  clear hu
  go_enter Try.func41, Try.ntmps41
  go_wp2_with fail
  go_ret
  exact ⟨ret_i64 X.out, rfl⟩

set_option maxRecDepth 20000 in
theorem integer_any (w : World) (B at0 : Nat) (a : Option Addr) (len cap : Nat) (bs : List Int) (h : Dec w B at0 a len cap bs) :
    Calls Try.prog 36 #[.pointer (some ⟨B, 0, none⟩)] w fun e w' =>
      e = .returned (.int .i64 (unf (tkF M64 true 0 at0 (bs.drop at0)).1)) ∧ DecAt w' B ((tkF M64 true 0 at0 (bs.drop at0)).2.1 : Nat) (tkF M64 true 0 at0 (bs.drop at0)).2.2 (.slice a len cap) ∧ Only B w w' := by
  have hv := varint_any w B at0 a len cap bs M64 (by decide) (by decide) h.blk h.reads h.size h.pos h.small h.bytes h.apart
  have hle := tkF_le (most := M64) (bs.drop at0) true 0 at0
  generalize tkF M64 true 0 at0 (bs.drop at0) = r at *
  have HV := Lib.hid hv
  have HLE := Lib.hid hle
  clear hv hle h
  go_enter Try.func36, Try.ntmps36
  go_wp2_with fail
  refine HV.out.mono ?_
  rintro e w1 ⟨rfl, hd, ho⟩
  have HD := Lib.hid hd
  clear hd
  go_wp2_with fail
  refine (unfold_any r.1 _ (by have := HLE.out; have : M64 = 18446744073709551615 := rfl; omega)).mono ?_
  rintro e w2 ⟨rfl, rfl⟩
  go_wp2_with fail
  go_ret
  exact ⟨rfl, HD.out, ho⟩

theorem nat_wrap {n : Nat} : (n : Int) = ((n : Nat) : Int) := rfl

set_option maxRecDepth 20000 in
theorem size_any (w : World) (B at0 : Nat) (a : Option Addr) (len cap : Nat) (bs : List Int) (most : Nat) (h : Dec w B at0 a len cap bs) :
    Calls Try.prog 42 #[.pointer (some ⟨B, 0, none⟩), .int .i64 (most : Int)] w fun e w' =>
      e = .returned (.int .i64 ((szF most at0 (bs.drop at0)).1 : Nat)) ∧ DecAt w' B ((szF most at0 (bs.drop at0)).2.1 : Nat) (szF most at0 (bs.drop at0)).2.2 (.slice a len cap) ∧ Only B w w' := by
  have HV := Lib.hid (count_any w B at0 a len cap bs h)
  clear h
  by_cases hm : most < (tkF M63 true 0 at0 (bs.drop at0)).1
  · have hs : szF most at0 (bs.drop at0) = (0, 0, 2) := by unfold szF; rw [if_pos hm]
    rw [hs]
    clear hs
    generalize tkF M63 true 0 at0 (bs.drop at0) = r at *
    go_enter Try.func42, Try.ntmps42
    go_wp2_with fail
    refine HV.out.mono ?_
    rintro e w1 ⟨rfl, hd, ho⟩
    have HD := Lib.hid hd
    clear hd
    go_wp2_with fail
    refine (fail_any _ B _ _ 2 _ HD.out).mono ?_
    rintro e w2 ⟨rfl, hd2, ho2⟩
    go_wp2_with fail
    go_ret
    exact ⟨rfl, hd2, ho.trans ho2⟩
  · have hs : szF most at0 (bs.drop at0) = tkF M63 true 0 at0 (bs.drop at0) := by unfold szF; rw [if_neg hm]
    rw [hs]
    clear hs
    generalize tkF M63 true 0 at0 (bs.drop at0) = r at *
    go_enter Try.func42, Try.ntmps42
    go_wp2_with fail
    refine HV.out.mono ?_
    rintro e w1 ⟨rfl, hd, ho⟩
    have HD := Lib.hid hd
    clear hd
    go_wp2_with fail
    go_ret
    exact ⟨rfl, HD.out, ho⟩

end Go.Proofs.Ytkjcdndlhjacfaa
