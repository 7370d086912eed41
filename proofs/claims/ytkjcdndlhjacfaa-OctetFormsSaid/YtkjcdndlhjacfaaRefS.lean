/-
  The document's own answers for layer 1: what its other functions return.
-/
import Derived.Test.YtkjcdndlhjacfaaRefT
namespace Go.Proofs.Ytkjcdndlhjacfaa
open Go.RowKit

set_option maxRecDepth 20000 in
theorem ruint_neg (n : Int) (w : World) (h : n < 0) :
    Calls Try.prog 13 #[.int .i64 n] w fun e w' => e = .returned (.tuple #[.slice none 0 0, .int .i64 1]) ∧ w = w' := by
  go_enter Try.func13, Try.ntmps13
  go_wp2
  go_ret2
  exact ⟨rfl, rfl⟩

set_option maxRecDepth 20000 in
theorem ruint_pos (n : Nat) (w : World) (h : n < 2 ^ 63) :
    Calls Try.prog 13 #[.int .i64 (n : Int)] w fun e w' => ∃ v, e = .returned (.tuple #[v, .int .i64 0]) ∧ Made w' w.heap.size v (enc n) ∧ Below w.heap.size w w' := by
  have HC := Lib.hid (rcount_any n w (by omega))
  have hn : IntKind.u64.wrap (n : Int) = n := wrap_u64_small _ (by omega) (by omega)
  have h0 : ¬ (n : Int) < 0 := by omega
  clear h
  go_enter Try.func13, Try.ntmps13
  go_wp2_with fail
  refine HC.out.mono ?_
  rintro e w1 ⟨v, rfl, hm, hb⟩
  have HM := Lib.hid hm
  clear hm
  go_wp2_with fail
  go_ret2
  exact ⟨v, rfl, HM.out, hb⟩

set_option maxRecDepth 20000 in
theorem rint_any (n : Int) (w : World) (h0 : -9223372036854775808 ≤ n) (h1 : n ≤ 9223372036854775807) :
    Calls Try.prog 20 #[.int .i64 n] w fun e w' => ∃ v, e = .returned v ∧ Made w' w.heap.size v (enc (fo n)) ∧ Below w.heap.size w w' := by
  have HC := Lib.hid (rcount_any (fo n) w (fo_lt n h0 h1))
  by_cases hn : 0 ≤ n
  · obtain ⟨m, rfl⟩ := Int.eq_ofNat_of_zero_le hn
    have hf : fo (m : Int) = 2 * m := by unfold fo; rw [if_pos hn]; omega
    rw [hf] at HC ⊢
    have hw1 : IntKind.u64.wrap (m : Int) = m := wrap_u64_small _ (by omega) (by omega)
    have hw2 : IntKind.u64.wrap (2 * (m : Int)) = ((2 * m : Nat) : Int) := by rw [wrap_u64_small _ (by omega) (by omega)]; omega
    clear h0 h1
    go_enter Try.func20, Try.ntmps20
    go_wp2_with fail
    refine HC.out.mono ?_
    rintro e w1 ⟨v, rfl, hm, hb⟩
    have HM := Lib.hid hm
    clear hm
    go_wp2_with fail
    go_ret
    exact ⟨v, rfl, HM.out, hb⟩
  · obtain ⟨m, hm⟩ := Int.eq_ofNat_of_zero_le (by omega : 0 ≤ -(n + 1))
    obtain rfl : n = -(m : Int) - 1 := by omega
    have hf : fo (-(m : Int) - 1) = 2 * m + 1 := by unfold fo; rw [if_neg hn]; omega
    rw [hf] at HC ⊢
    have hm2 : (m : Int) ≤ 9223372036854775807 := by omega
    have hw1 : IntKind.u64.wrap (m : Int) = m := wrap_u64_small _ (by omega) (by omega)
    have hw2 : IntKind.u64.wrap (2 * (m : Int)) = 2 * (m : Int) := wrap_u64_small _ (by omega) (by omega)
    have hw4 : IntKind.u64.wrap (2 * (m : Int) + 1) = 2 * (m : Int) + 1 := by rw [wrap_u64_small _ (by omega) (by omega)]
    rw [show ((2 * m + 1 : Nat) : Int) = 2 * (m : Int) + 1 by omega] at HC
    have hneg : ¬ (0 ≤ -(m : Int) - 1) := by omega
    clear h0 h1 hm hn
    go_enter Try.func20, Try.ntmps20
    go_wp2_with fail
    refine HC.out.mono ?_
    rintro e w1 ⟨v, rfl, hm, hb⟩
    have HM := Lib.hid hm
    clear hm
    go_wp2_with fail
    go_ret
    exact ⟨v, rfl, HM.out, hb⟩

set_option maxRecDepth 20000 in
theorem rtakeUint_any (w : World) (a : Option Addr) (len cap : Nat) (bs : List Int) (h : Src w a len cap bs) :
    Calls Try.prog 14 #[.slice a len cap] w fun e w' =>
      e = .returned (.tuple #[.int .i64 ((tkF M63 true 0 0 bs).1 : Nat), .int .i64 ((tkF M63 true 0 0 bs).2.1 : Nat), .int .i64 (tkF M63 true 0 0 bs).2.2]) ∧ w = w' := by
  have HV := Lib.hid (rtake_any w a len cap bs M63 (by decide) h)
  have hle := tkF_le (most := M63) bs true 0 0
  generalize tkF M63 true 0 0 bs = r at *
  have hw : IntKind.i64.wrap (r.1 : Int) = r.1 := IntWalk.i64_in _ ⟨by omega, by have : M63 = 9223372036854775807 := rfl; omega⟩
  clear hle h
  go_enter Try.func14, Try.ntmps14
  go_wp2_with fail
  refine HV.out.mono ?_
  rintro e w1 ⟨rfl, rfl⟩
  go_wp2_with fail
  go_ret3
  exact ⟨rfl, rfl⟩

set_option maxRecDepth 20000 in
theorem rtakeInt_any (w : World) (a : Option Addr) (len cap : Nat) (bs : List Int) (h : Src w a len cap bs) :
    Calls Try.prog 19 #[.slice a len cap] w fun e w' =>
      e = .returned (.tuple #[.int .i64 (unf (tkF M64 true 0 0 bs).1), .int .i64 ((tkF M64 true 0 0 bs).2.1 : Nat), .int .i64 (tkF M64 true 0 0 bs).2.2]) ∧ w = w' := by
  have HV := Lib.hid (rtake_any w a len cap bs M64 (by decide) h)
  have hle := tkF_le (most := M64) bs true 0 0
  generalize tkF M64 true 0 0 bs = r at *
  obtain ⟨u, p, c⟩ := r
  have hM : M64 = 18446744073709551615 := rfl
  simp only at hle HV ⊢
  have hw1 : IntKind.u64.wrap ((u : Int) / 2) = (u : Int) / 2 := wrap_u64_small _ (by omega) (by omega)
  have hw2 : IntKind.i64.wrap ((u : Int) / 2) = (u : Int) / 2 := IntWalk.i64_in _ ⟨by omega, by omega⟩
  have hw3 : IntKind.u64.wrap ((u : Int) % 2) = (u : Int) % 2 := wrap_u64_small _ (by omega) (by omega)
  have hw4 : IntKind.i64.wrap (-((u : Int) / 2)) = -((u : Int) / 2) := IntWalk.i64_in _ ⟨by omega, by omega⟩
  have hw5 : IntKind.i64.wrap (-((u : Int) / 2) - 1) = -((u : Int) / 2) - 1 := IntWalk.i64_in _ ⟨by omega, by omega⟩
  clear hle h hM
  by_cases ho : u % 2 = 0
  · have hb : ((u : Int) % 2 == 1) = false := by rw [beq_eq_false_iff_ne]; omega
    have HU : Hid (unf u = (u : Int) / 2) := by unfold Hid unf; rw [if_pos ho]; omega
    clear ho
    go_enter Try.func19, Try.ntmps19
    go_wp2_with fail
    refine HV.out.mono ?_
    rintro e w1 ⟨rfl, rfl⟩
    go_wp2_with fail
    go_ret3
    rw [HU.out]
    exact ⟨rfl, rfl⟩
  · have hb : ((u : Int) % 2 == 1) = true := by rw [beq_iff_eq]; omega
    have HU : Hid (unf u = -((u : Int) / 2) - 1) := by unfold Hid unf; rw [if_neg ho]; omega
    clear ho
    go_enter Try.func19, Try.ntmps19
    go_wp2_with fail
    refine HV.out.mono ?_
    rintro e w1 ⟨rfl, rfl⟩
    go_wp2_with fail
    go_ret3
    rw [HU.out]
    exact ⟨rfl, rfl⟩

set_option maxRecDepth 20000 in
theorem rtext_long (s : ByteArray) (w : World) (h : 65535 < s.size) :
    Calls Try.prog 23 #[.string s] w fun e w' => e = .returned (.tuple #[.slice none 0 0, .int .i64 2]) ∧ w = w' := by
  have h' : (65535 : Int) < s.size := by omega
  go_enter Try.func23, Try.ntmps23
  go_wp2_with fail
  go_ret2
  exact ⟨rfl, rfl⟩

set_option maxRecDepth 20000 in
theorem rtext_short (s : ByteArray) (w : World) (h : s.size ≤ 65535) :
    Calls Try.prog 23 #[.string s] w fun e w' => ∃ v, e = .returned (.tuple #[v, .int .i64 0]) ∧ Made w' w.heap.size v (enc s.size ++ sb s) ∧ Below w.heap.size w w' := by
  obtain ⟨i0, hi, hz0, hz1, hz2⟩ := info_parts infoU8
  have h' : ¬ (65535 : Int) < s.size := by omega
  have hl := enc_length s.size (by omega)
  go_enter Try.func23, Try.ntmps23
  go_wp2_with fail
  refine (rcount_any s.size w (by omega)).mono ?_
  rintro e w1 ⟨v', rfl, hm, hb⟩
  obtain ⟨g, c, -, hown⟩ := hm
  go_wp2_with (at_builtin; refine Lib.wpList_append_own_string _ rfl _ _ 22 9 rfl w.heap.size 5 i0 Try.underlying22 Try.underlying9 hi hz0 hz1 hz2 _ _ _ rfl hown s rfl (by unfold maxLen; omega) (by omega) hb.size ?_)
  intro v2 w2 hown2 hgrow _
  have hb2 := hb.grown hgrow hb.size (fun k h => (hown.lt k h).1)
  have hm : Made w2 w.heap.size v2 (enc s.size ++ sb s) := by
    rw [sb_cells] at hown2
    simp only [← List.map_append] at hown2
    exact made_of hown2 (by have := enc_length_pos s.size; simp; omega)
  clear hown hown2 hgrow hb
  go_wp2_with fail
  go_ret2
  exact ⟨v2, rfl, hm, hb2⟩

end Go.Proofs.Ytkjcdndlhjacfaa
