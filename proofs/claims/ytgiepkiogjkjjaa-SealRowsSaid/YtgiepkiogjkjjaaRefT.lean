/-
  The document's own answers for layer 1: what its take returns.
-/
import Derived.Test.YtgiepkiogjkjjaaRef
namespace Go.Proofs.Ytgiepkiogjkjjaa
open Go.RowKit

theorem ret_three {a b c d : Int} {v : Value} (h : a = b) (k : c = d) : Ending.returned (.tuple #[.int .u64 a, .int .i64 c, v]) = .returned (.tuple #[.int .u64 b, .int .i64 d, v]) := by rw [h, k]

set_option maxHeartbeats 1600000 in
set_option maxRecDepth 20000 in
theorem rtake_any (w : World) (a : Option Addr) (len cap : Nat) (bs : List Int) (M : Nat) (hM2 : M < 2 ^ 64) (h : Src w a len cap bs) :
    Calls Try.prog 35 #[.slice a len cap, .int .u64 (M : Int)] w fun e w' =>
      e = .returned (.tuple #[.int .u64 ((tkF M true 0 0 bs).1 : Nat), .int .i64 ((tkF M true 0 0 bs).2.1 : Nat), .int .i64 (tkF M true 0 0 bs).2.2]) ∧ w = w' := by
  have HM := Lib.hid hM2
  have H := Lib.hid h
  have hsm := h.small
  clear hM2 h
  obtain ⟨T, hT⟩ : ∃ T, T = tkF M true 0 0 bs := ⟨_, rfl⟩
  rw [← hT]
  have HT := Lib.hid hT
  clear hT
  go_enter Try.func35, Try.ntmps35
  go_wp2
  go_loop [7, 8] (fun uv iv => ∃ (k u : Nat), k ≤ len ∧ uv = .int .u64 (u : Int) ∧ iv = .int .i64 (k : Int) ∧ u ≤ M ∧ Hid (T = tkF M (k == 0) u k (bs.drop k)))
    (fun _ iv => len - (intOf iv).toNat)
  case atStart => exact ⟨0, 0, by omega, rfl, rfl, by omega, HT⟩
  case round =>
    obtain ⟨k, u, hk, rfl, rfl, hu, htk⟩ := hrel
    by_cases hlt : k < len
    · obtain ⟨b, off, rfl, hcell⟩ : ∃ b off, a = some ⟨b, off, none⟩ ∧ ∀ i, i < bs.length → w.cell? ⟨b, off + i, none⟩ = some (.int .u8 (bs.getD i 0)) := by
        rcases H.out.reads with h | h
        · have := H.out.size; subst h; simp at this; omega
        · exact h
      obtain ⟨x, hx⟩ : ∃ x, x = bs.getD k 0 := ⟨_, rfl⟩
      have hxr : 0 ≤ x ∧ x < 256 := by
        have h1 : k < bs.length := by rw [H.out.size]; exact hlt
        rw [hx]
        exact H.out.bytes _ (by simp [List.getD, List.getElem?_eq_getElem h1])
      have hcx : w.cell? ⟨b, off + k, none⟩ = some (.int .u8 x) := by
        rw [hx]
        exact hcell k (by rw [H.out.size]; exact hlt)
      have htk2 : Hid (T = tkF M (k == 0) u k (x :: bs.drop (k + 1))) := by
        have e := htk.out
        rw [drop_cons (by rw [H.out.size]; exact hlt), ← hx] at e
        exact e
      clear hx hcell htk
      obtain ⟨hx0, hx1⟩ := hxr
      have hm128 := Int.emod_nonneg x (show (128 : Int) ≠ 0 by decide)
      have hm128' := Int.emod_lt_of_pos x (show (0 : Int) < 128 by decide)
      have hw0 : IntKind.u64.wrap (x % 128) = x % 128 := IntWalk.u64_in _ ⟨by omega, by omega⟩
      have hw1 : IntKind.u64.wrap ((M : Int) / 128) = (M : Int) / 128 := IntWalk.u64_in _ ⟨by omega, by have := HM.out; omega⟩
      have hw2 : IntKind.u64.wrap ((M : Int) % 128) = (M : Int) % 128 := IntWalk.u64_in _ ⟨by omega, by omega⟩
      by_cases hf : k = 0 ∧ x = 128
      · obtain ⟨rfl, rfl⟩ := hf
        have HT2 := Lib.hid (htk2.out.trans (tkF_bad (by simp [Bad])))
        clear htk2
        have hcx0 : w.cell? ⟨b, off, none⟩ = some (.int .u8 128) := hcx
        go_wp2_with fail
        go_ret3
        rw [HT2.out]
        exact ⟨rfl, rfl⟩
      · have hg1 : Hid ((k == 0 && x == 128) = false) := by
          unfold Hid
          simp only [Bool.and_eq_false_iff, beq_eq_false_iff_ne]
          by_cases e : k = 0
          · exact .inr fun e2 => hf ⟨e, e2⟩
          · exact .inl e
        by_cases hbig : (M : Int) < u * 128 + x % 128
        · have HT2 := Lib.hid (htk2.out.trans (tkF_bad (by simp only [Bad, hg1.out, Bool.false_or, decide_eq_true_iff]; omega)))
          clear htk2
          by_cases hk0 : k = 0
          · subst hk0
            have hcx0 : w.cell? ⟨b, off, none⟩ = some (.int .u8 x) := hcx
            have hne : (x == 128) = false := by rw [beq_eq_false_iff_ne]; intro e; exact hf ⟨rfl, e⟩
            clear hf
            by_cases hq : (M : Int) / 128 < u
            · go_wp2_with fail
              go_ret3
              rw [HT2.out]
              exact ⟨rfl, rfl⟩
            · have hq2 : ((u : Int) == (M : Int) / 128) = true := by rw [beq_iff_eq]; omega
              have hq3 : (M : Int) % 128 < x % 128 := by omega
              go_wp2_with fail
              go_ret3
              rw [HT2.out]
              exact ⟨rfl, rfl⟩
          · have hk1 : ((k : Int) == 0) = false := by rw [beq_eq_false_iff_ne]; omega
            clear hf hk0
            by_cases hq : (M : Int) / 128 < u
            · go_wp2_with fail
              go_ret3
              rw [HT2.out]
              exact ⟨rfl, rfl⟩
            · have hq2 : ((u : Int) == (M : Int) / 128) = true := by rw [beq_iff_eq]; omega
              have hq3 : (M : Int) % 128 < x % 128 := by omega
              go_wp2_with fail
              go_ret3
              rw [HT2.out]
              exact ⟨rfl, rfl⟩
        · have hgood : Hid (Bad M (k == 0) u x = false) := by
            unfold Hid
            simp only [Bad, hg1.out, Bool.false_or, decide_eq_false_iff_not]; omega
          have hw3 : IntKind.u64.wrap ((u : Int) * 128) = (u : Int) * 128 := IntWalk.u64_in _ ⟨by omega, by have := HM.out; omega⟩
          have hw4 : IntKind.u64.wrap ((u : Int) * 128 + x % 128) = (u : Int) * 128 + x % 128 := IntWalk.u64_in _ ⟨by omega, by have := HM.out; omega⟩
          have hq : ¬ (M : Int) / 128 < u := by omega
          have hq4 : ((u : Int) == (M : Int) / 128) = false ∨ (((u : Int) == (M : Int) / 128) = true ∧ ¬ (M : Int) % 128 < x % 128) := by
            by_cases e : (u : Int) = (M : Int) / 128
            · right; exact ⟨by rw [beq_iff_eq]; exact e, by omega⟩
            · left; rw [beq_eq_false_iff_ne]; exact e
          by_cases hend : x < 128
          · have HT2 := Lib.hid (htk2.out.trans (tkF_end hgood.out hend))
            clear htk2
            by_cases hk0 : k = 0
            · subst hk0
              have hcx0 : w.cell? ⟨b, off, none⟩ = some (.int .u8 x) := hcx
              have hne : (x == 128) = false := by rw [beq_eq_false_iff_ne]; omega
              clear hf
              rcases hq4 with hq5 | ⟨hq5, hq6⟩
              all_goals
                go_wp2_with fail
                go_ret3
                rw [HT2.out]
                exact ⟨ret_three (by simp; omega) (by simp), rfl⟩
            · have hk1 : ((k : Int) == 0) = false := by rw [beq_eq_false_iff_ne]; omega
              clear hf hk0
              rcases hq4 with hq5 | ⟨hq5, hq6⟩
              all_goals
                go_wp2_with fail
                go_ret3
                rw [HT2.out]
                exact ⟨ret_three (by simp; omega) (by simp), rfl⟩
          · have HT2 := Lib.hid (htk2.out.trans (tkF_more hgood.out hend))
            clear htk2
            have hsum : ((u * 128 + (x % 128).toNat : Nat) : Int) = (u : Int) * 128 + x % 128 := by omega
            have HS := Lib.hid hsum
            clear hsum
            have HK : Hid (T = tkF M (k + 1 == 0) (u * 128 + (x % 128).toNat) (k + 1) (bs.drop (k + 1))) := by
              rw [show (k + 1 == 0) = false from rfl]; exact HT2.out
            clear HT2
            by_cases hk0 : k = 0
            · subst hk0
              have hcx0 : w.cell? ⟨b, off, none⟩ = some (.int .u8 x) := hcx
              have hne : (x == 128) = false := by rw [beq_eq_false_iff_ne]; intro e; exact hf ⟨rfl, e⟩
              clear hf
              rcases hq4 with hq5 | ⟨hq5, hq6⟩
              all_goals
                go_wp2_with fail
                go_round
                case rel => exact ⟨0 + 1, u * 128 + (x % 128).toNat, by omega, by rw [HS.out], rfl, by have := HS.out; omega, HK⟩
                case measure => simp [intOf]; omega
            · have hk1 : ((k : Int) == 0) = false := by rw [beq_eq_false_iff_ne]; omega
              clear hf hk0
              rcases hq4 with hq5 | ⟨hq5, hq6⟩
              all_goals
                go_wp2_with fail
                go_round
                case rel => exact ⟨k + 1, u * 128 + (x % 128).toNat, by omega, by rw [HS.out], by go_num, by have := HS.out; omega, HK⟩
                case measure => simp [intOf]; omega
    · obtain rfl : k = len := by omega
      have HT2 : Hid (T = (0, 0, 3)) := by
        have e := htk.out
        rw [List.drop_eq_nil_of_le (by rw [H.out.size]; exact Nat.le_refl _), tkF_nil] at e
        exact e
      clear htk
      go_wp2_with fail
      go_ret3
      rw [HT2.out]
      exact ⟨rfl, rfl⟩

end Go.Proofs.Ytgiepkiogjkjjaa
