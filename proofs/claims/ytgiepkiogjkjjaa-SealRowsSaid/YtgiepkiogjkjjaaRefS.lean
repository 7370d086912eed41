/-
  The document's own answers for layer 1: what its other functions return.
-/
import Derived.Test.YtgiepkiogjkjjaaRefT
namespace Go.Proofs.Ytgiepkiogjkjjaa
open Go.RowKit

set_option maxRecDepth 20000 in
theorem ruint_neg (n : Int) (w : World) (h : n < 0) :
    Calls Try.prog 25 #[.int .i64 n] w fun e w' => e = .returned (.tuple #[.slice none 0 0, .int .i64 1]) ∧ w = w' := by
  go_enter Try.func25, Try.ntmps25
  go_wp2
  go_ret2
  exact ⟨rfl, rfl⟩

set_option maxRecDepth 20000 in
theorem ruint_pos (n : Nat) (w : World) (h : n < 2 ^ 63) :
    Calls Try.prog 25 #[.int .i64 (n : Int)] w fun e w' => ∃ v, e = .returned (.tuple #[v, .int .i64 0]) ∧ Made w' w.heap.size v (enc n) ∧ Below w.heap.size w w' := by
  have HC := Lib.hid (rcount_any n w (by omega))
  have hn : IntKind.u64.wrap (n : Int) = n := wrap_u64_small _ (by omega) (by omega)
  have h0 : ¬ (n : Int) < 0 := by omega
  clear h
  go_enter Try.func25, Try.ntmps25
  go_wp2_with fail
  refine HC.out.mono ?_
  rintro e w1 ⟨v, rfl, hm, hb⟩
  have HM := Lib.hid hm
  clear hm
  go_wp2_with fail
  go_ret2
  exact ⟨v, rfl, HM.out, hb⟩

set_option maxRecDepth 20000 in
theorem rtakeUint_any (w : World) (a : Option Addr) (len cap : Nat) (bs : List Int) (h : Src w a len cap bs) :
    Calls Try.prog 27 #[.slice a len cap] w fun e w' =>
      e = .returned (.tuple #[.int .i64 ((tkF M63 true 0 0 bs).1 : Nat), .int .i64 ((tkF M63 true 0 0 bs).2.1 : Nat), .int .i64 (tkF M63 true 0 0 bs).2.2]) ∧ w = w' := by
  have HV := Lib.hid (rtake_any w a len cap bs M63 (by decide) h)
  have hle := tkF_le (most := M63) bs true 0 0
  generalize tkF M63 true 0 0 bs = r at *
  have hw : IntKind.i64.wrap (r.1 : Int) = r.1 := IntWalk.i64_in _ ⟨by omega, by have : M63 = 9223372036854775807 := rfl; omega⟩
  clear hle h
  go_enter Try.func27, Try.ntmps27
  go_wp2_with fail
  refine HV.out.mono ?_
  rintro e w1 ⟨rfl, rfl⟩
  go_wp2_with fail
  go_ret3
  exact ⟨rfl, rfl⟩

end Go.Proofs.Ytgiepkiogjkjjaa
