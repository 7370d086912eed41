/-
  The document's own answers for layer 1: TakeText.
-/
import Derived.Test.YtkjcdndlhjacfaaRefS
namespace Go.Proofs.Ytkjcdndlhjacfaa
open Go.RowKit

set_option maxHeartbeats 800000 in
set_option maxRecDepth 20000 in
theorem rtakeText_any (w : World) (a : Option Addr) (len cap : Nat) (bs : List Int) (h : Src w a len cap bs) :
    Calls Try.prog 24 #[.slice a len cap] w fun e w' =>
      e = .returned (.tuple #[.string (strOfNums (txF 0 bs).1), .int .i64 ((txF 0 bs).2.1 : Nat), .int .i64 (txF 0 bs).2.2]) ∧ w = w' := by
  have HV := Lib.hid (rtakeUint_any w a len cap bs h)
  have H := Lib.hid h
  have hsm := h.small
  have hcap := h.caps.1
  clear h
  obtain ⟨T, hT⟩ : ∃ T, T = txF 0 bs := ⟨_, rfl⟩
  rw [← hT]
  unfold txF szF at hT
  simp only [List.drop_zero] at hT
  have ht := tkF_told (most := M63) bs true 0 0
  have hle := tkF_le (most := M63) bs true 0 0
  rw [show M63 = 9223372036854775807 from rfl] at hle
  generalize tkF M63 true 0 0 bs = r at *
  obtain ⟨v, q, c⟩ := r
  simp only at hT ht HV hle
  have HT := Lib.hid hT
  clear hT
  rcases ht with ⟨rfl, h1, h2⟩ | ⟨hc, rfl, rfl⟩
  · have hq : q ≤ len := by have := H.out.size; omega
    have hsub : IntKind.i64.wrap ((len : Int) - (q : Int)) = (len : Int) - (q : Int) := IntWalk.i64_in _ ⟨by omega, by omega⟩
    clear h2
    by_cases hm : 65535 < v
    · have HT2 : Hid (T = ([], 0, 2)) := by
        have e := HT.out
        rw [if_pos hm] at e
        simpa [Hid] using e
      clear HT
      have hm' : (65535 : Int) < v := by omega
      go_enter Try.func24, Try.ntmps24
      go_wp2_with fail
      refine HV.out.mono ?_
      rintro e w1 ⟨rfl, rfl⟩
      go_wp2_with fail
      go_ret3
      rw [HT2.out]
      exact ⟨rfl, rfl⟩
    · have hm' : ¬ (65535 : Int) < v := by omega
      by_cases hs : len - q < v
      · have HT2 : Hid (T = ([], 0, 3)) := by
          have e := HT.out
          rw [if_neg hm] at e
          simp only at e
          rw [if_neg (by simp), H.out.size, if_pos hs] at e
          exact e
        clear HT
        have hs' : (len : Int) - (q : Int) < v := by omega
        go_enter Try.func24, Try.ntmps24
        go_wp2_with fail
        refine HV.out.mono ?_
        rintro e w1 ⟨rfl, rfl⟩
        go_wp2_with fail
        go_ret3
        rw [HT2.out]
        exact ⟨rfl, rfl⟩
      · have HT2 : Hid (T = ((bs.drop q).take v, q + v, 0)) := by
          have e := HT.out
          rw [if_neg hm] at e
          simp only at e
          rw [if_neg (by simp), H.out.size, if_neg hs] at e
          exact e
        clear HT
        have hs' : ¬ (len : Int) - (q : Int) < v := by omega
        have hs2 : q + v ≤ len := by omega
        have hs3 : q + v ≤ cap := by omega
        obtain ⟨b, off, rfl, hcell⟩ : ∃ b off, a = some ⟨b, off, none⟩ ∧ ∀ i, i < bs.length → w.cell? ⟨b, off + i, none⟩ = some (.int .u8 (bs.getD i 0)) := by
          rcases H.out.reads with h | h
          · have := H.out.size; subst h; simp at this; omega
          · exact h
        by_cases hcq : cap = q
        · subst hcq
          obtain rfl : v = 0 := by omega
          have hs1 := fun c' => run_convert_bytes_arg (P := Try.prog) w 22 5 Try.underlying22 Try.underlying5 b off 0 c' [] rfl (fun i hi => absurd hi (by omega)) 9 Try.underlying9
          clear hcell
          go_enter Try.func24, Try.ntmps24
          go_wp2_with fail
          refine HV.out.mono ?_
          rintro e w1 ⟨rfl, rfl⟩
          go_wp2_with fail
          go_ret3
          rw [HT2.out]
          exact ⟨rfl, rfl⟩
        · have hs1 := fun c' => run_convert_bytes_arg (P := Try.prog) w 22 5 Try.underlying22 Try.underlying5 b (off + q) v c' ((bs.drop q).take v)
            (by have := H.out.size; simp; omega) (fun i hi => by
              have e := hcell (q + i) (by have := H.out.size; omega)
              rw [Nat.add_assoc, e]
              simp [List.getD, hi]) 9 Try.underlying9
          clear hcell
          go_enter Try.func24, Try.ntmps24
          go_wp2_with fail
          refine HV.out.mono ?_
          rintro e w1 ⟨rfl, rfl⟩
          go_wp2_with fail
          go_ret3
          rw [HT2.out]
          exact ⟨rfl, rfl⟩
  · have HT2 : Hid (T = ([], 0, c)) := by
      have e := HT.out
      rw [show (if 65535 < 0 then ((0 : Nat), (0 : Nat), (2 : Int)) else (0, 0, c)) = (0, 0, c) from if_neg (by omega)] at e
      rw [if_pos (by show c ≠ 0; omega)] at e
      exact e
    have hc0 : (c == 0) = false := by rw [beq_eq_false_iff_ne]; omega
    clear HT hc
    go_enter Try.func24, Try.ntmps24
    go_wp2_with fail
    refine HV.out.mono ?_
    rintro e w1 ⟨rfl, rfl⟩
    go_wp2_with fail
    go_ret3
    rw [HT2.out]
    exact ⟨rfl, rfl⟩

end Go.Proofs.Ytkjcdndlhjacfaa
