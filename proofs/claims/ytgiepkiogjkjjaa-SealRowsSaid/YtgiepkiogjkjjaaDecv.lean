/-
  The decoder's varint.
-/
import Derived.Test.YtgiepkiogjkjjaaDec
namespace Go.Proofs.Ytgiepkiogjkjjaa
open Go.RowKit

/-- The numbers that a slice's value leads to. -/
def Reads (w : World) (a : Option Addr) (bs : List Int) : Prop := bs = [] ∨ ∃ b off, a = some ⟨b, off, none⟩ ∧ ∀ i, i < bs.length → w.cell? ⟨b, off + i, none⟩ = some (.int .u8 (bs.getD i 0))

theorem Reads.only {w w' : World} {a : Option Addr} {bs : List Int} {B : Nat} (h : Reads w a bs) (ho : Only B w w') (hB : bs ≠ [] → ∀ b off, a = some ⟨b, off, none⟩ → b ≠ B) : Reads w' a bs := by
  rcases h with h | ⟨b, off, ha, hc⟩
  · exact .inl h
  · exact .inr ⟨b, off, ha, fun i hi => ho.1.cell (hc i hi) (by simpa using hB (fun e => by subst e; simp at hi) b off ha)⟩

theorem and127 (x : Int) (h0 : 0 ≤ x) (h1 : x < 256) : bits .and .u8 x 127 = x % 128 := by
  obtain ⟨n, rfl⟩ := Int.eq_ofNat_of_zero_le h0
  have h := u8_and_nat n 127 (by omega) (by decide)
  rw [show ((127 : Int)) = ((127 : Nat) : Int) from rfl, h]
  have := Nat.and_two_pow_sub_one_eq_mod n 7
  simp only [show 2 ^ 7 - 1 = 127 from rfl] at this
  rw [this]
  omega

theorem ret_u64 {a b : Int} (h : a = b) : Ending.returned (.int .u64 a) = .returned (.int .u64 b) := by rw [h]

set_option maxHeartbeats 1600000 in
set_option maxRecDepth 20000 in
theorem varint_any (w : World) (B : Nat) (at0 : Nat) (a : Option Addr) (len cap : Nat) (bs : List Int) (M : Nat) (hM : 127 ≤ M) (hM2 : M < 2 ^ 64)
    (hd : DecAt w B at0 0 (.slice a len cap)) (hr : Reads w a bs) (hlen : bs.length = len) (hat : at0 ≤ len) (hl : len ≤ 1000000000000000) (hbs : ∀ x ∈ bs, 0 ≤ x ∧ x < 256)
    (hB : bs ≠ [] → ∀ b off, a = some ⟨b, off, none⟩ → b ≠ B) :
    Calls Try.prog 39 #[.pointer (some ⟨B, 0, none⟩), .int .u64 (M : Int)] w fun e w' =>
      e = .returned (.int .u64 ((tkF M true 0 at0 (bs.drop at0)).1 : Nat)) ∧ DecAt w' B ((tkF M true 0 at0 (bs.drop at0)).2.1 : Nat) (tkF M true 0 at0 (bs.drop at0)).2.2 (.slice a len cap) ∧ Only B w w' := by
  have HM := Lib.hid hM2
  have HD := Lib.hid hd
  have HR := Lib.hid hr
  have HBS := Lib.hid hbs
  have HBB := Lib.hid hB
  have HL := Lib.hid hlen
  clear hM2 hd hr hbs hB hlen
  obtain ⟨T, hT⟩ : ∃ T, T = tkF M true 0 at0 (bs.drop at0) := ⟨_, rfl⟩
  rw [← hT]
  have HT := Lib.hid hT
  clear hT
  go_enter Try.func39, Try.ntmps39
  go_wp2
  go_loopw [5, 6] (fun uv fv wr => ∃ (k u : Nat) (f : Bool), at0 ≤ k ∧ k ≤ len ∧ uv = .int .u64 (u : Int) ∧ fv = .bool f ∧ Hid (DecAt wr B k 0 (.slice a len cap)) ∧ Only B w wr ∧ u ≤ M ∧ Hid (T = tkF M f u k (bs.drop k)))
    (fun _ _ wr => match wr.cell? ⟨B, 0, none⟩ with | some v => len - (intOf v).toNat | none => 0)
  case atStart => exact ⟨at0, 0, true, by omega, by omega, rfl, rfl, HD, Only.refl _ _, by omega, HT⟩
  case round =>
    obtain ⟨k, u, f, hk0, hk, rfl, rfl, hdr, hor, hu, htk⟩ := hrel
    have c0 := hdr.out.c0
    have c1 := hdr.out.c1
    have c2 := hdr.out.c2
    by_cases hlt : k < len
    · obtain ⟨b, off, rfl, hcell⟩ : ∃ b off, a = some ⟨b, off, none⟩ ∧ ∀ i, i < bs.length → w.cell? ⟨b, off + i, none⟩ = some (.int .u8 (bs.getD i 0)) := by
        rcases HR.out with h | h
        · have := HL.out; subst h; simp at this; omega
        · exact h
      have hbB : b ≠ B := HBB.out (fun e => by have := HL.out; subst e; simp at this; omega) b off rfl
      obtain ⟨x, hx⟩ : ∃ x, x = bs.getD k 0 := ⟨_, rfl⟩
      have hxr : 0 ≤ x ∧ x < 256 := by
        have h1 : k < bs.length := by rw [HL.out]; exact hlt
        rw [hx]
        exact HBS.out _ (by simp [List.getD, List.getElem?_eq_getElem h1])
      have hcx : wr.cell? ⟨b, off + k, none⟩ = some (.int .u8 x) := by
        rw [hx]
        exact hor.1.cell (hcell k (by rw [HL.out]; exact hlt)) (by simpa using hbB)
      have htk2 : Hid (T = tkF M f u k (x :: bs.drop (k + 1))) := by
        have e := htk.out
        rw [drop_cons (by rw [HL.out]; exact hlt), ← hx] at e
        exact e
      clear hx hcell htk
      obtain ⟨hx0, hx1⟩ := hxr
      have h127 := and127 x hx0 hx1
      have hm128 := Int.emod_nonneg x (show (128 : Int) ≠ 0 by decide)
      have hm128' := Int.emod_lt_of_pos x (show (0 : Int) < 128 by decide)
      have hw1 : IntKind.u64.wrap ((M : Int) - x % 128) = (M : Int) - x % 128 := IntWalk.u64_in _ ⟨by omega, by have := HM.out; omega⟩
      have hw2 : IntKind.u64.wrap (((M : Int) - x % 128).tdiv 128) = ((M : Int) - x % 128) / 128 := IntWalk.u64_quo _ _ ⟨by omega, by have := HM.out; omega, by omega⟩
      go_wp2_with fail
      go_quiet (fail)
      go_wp2_with fail
      go_quiet (fail)
      go_wp2_with fail
      refine (advance_any _ B k 0 1 (.slice (some ⟨b, off, none⟩) len cap) (hdr.out.drewN _) (by omega) (by omega) (by omega)).mono ?_
      rintro e w1 ⟨rfl, hd1, ho1⟩
      have HD1 := Lib.hid hd1
      have HO1 := Lib.hid (hor.trans (((Only.refl B wr).drewN _).trans ho1))
      clear hd1 ho1 c0 c1 c2 hcx
      by_cases hf : f = true ∧ x = 128
      · obtain ⟨rfl, rfl⟩ := hf
        have HT2 := Lib.hid (htk2.out.trans (tkF_bad (by simp [Bad])))
        clear htk2
        go_wp2_with fail
        refine (fail_any _ B _ 0 4 _ HD1.out).mono ?_
        rintro e w2 ⟨rfl, hd2, ho2⟩
        go_wp2_with fail
        go_ret
        rw [HT2.out]
        exact ⟨rfl, hd2, HO1.out.trans ho2⟩
      · by_cases hbig : (M : Int) < u * 128 + x % 128
        · have HT2 := Lib.hid (htk2.out.trans (tkF_bad (by simp [Bad]; right; omega)))
          clear htk2
          cases f
          · go_wp2_with fail
            refine (fail_any _ B _ 0 4 _ HD1.out).mono ?_
            rintro e w2 ⟨rfl, hd2, ho2⟩
            go_wp2_with fail
            go_ret
            rw [HT2.out]
            exact ⟨rfl, hd2, HO1.out.trans ho2⟩
          · have hne : (x == 128) = false := by rw [beq_eq_false_iff_ne]; intro e; exact hf ⟨rfl, e⟩
            clear hf
            go_wp2_with fail
            refine (fail_any _ B _ 0 4 _ HD1.out).mono ?_
            rintro e w2 ⟨rfl, hd2, ho2⟩
            go_wp2_with fail
            go_ret
            rw [HT2.out]
            exact ⟨rfl, hd2, HO1.out.trans ho2⟩
        · have hgood : Hid (Bad M f u x = false) := by
            unfold Hid
            simp only [Bad, Bool.or_eq_false_iff, Bool.and_eq_false_iff, decide_eq_false_iff_not, beq_eq_false_iff_ne]
            refine ⟨?_, by omega⟩
            cases f
            · exact .inl rfl
            · exact .inr fun e => hf ⟨rfl, e⟩
          have hw3 : IntKind.u64.wrap ((u : Int) * 128) = (u : Int) * 128 := IntWalk.u64_in _ ⟨by omega, by have := HM.out; omega⟩
          have hw4 : IntKind.u64.wrap ((u : Int) * 128 + x % 128) = (u : Int) * 128 + x % 128 := IntWalk.u64_in _ ⟨by omega, by have := HM.out; omega⟩
          by_cases hend : x < 128
          · have HT2 := Lib.hid (htk2.out.trans (tkF_end hgood.out hend))
            clear htk2
            cases f
            · go_wp2_with fail
              go_ret
              rw [HT2.out]
              exact ⟨ret_u64 (by simp; omega), by simpa using HD1.out, HO1.out⟩
            · have hne : (x == 128) = false := by rw [beq_eq_false_iff_ne]; omega
              clear hf
              go_wp2_with fail
              go_ret
              rw [HT2.out]
              exact ⟨ret_u64 (by simp; omega), by simpa using HD1.out, HO1.out⟩
          · have HT2 := Lib.hid (htk2.out.trans (tkF_more hgood.out hend))
            clear htk2
            have hsum : ((u * 128 + (x % 128).toNat : Nat) : Int) = (u : Int) * 128 + x % 128 := by omega
            have HS := Lib.hid hsum
            clear hsum
            have hc0 := HD1.out.c0
            cases f
            · go_wp2_with fail
              go_roundw
              case rel => exact ⟨k + 1, u * 128 + (x % 128).toNat, false, by omega, by omega, by rw [HS.out], rfl, HD1, HO1.out, by have := HS.out; omega, HT2⟩
              case measure => have hcw := hdr.out.c0; simp [hc0, hcw, intOf]; omega
            · have hne : (x == 128) = false := by rw [beq_eq_false_iff_ne]; intro e; exact hf ⟨rfl, e⟩
              clear hf
              go_wp2_with fail
              go_roundw
              case rel => exact ⟨k + 1, u * 128 + (x % 128).toNat, false, by omega, by omega, by rw [HS.out], rfl, HD1, HO1.out, by have := HS.out; omega, HT2⟩
              case measure => have hcw := hdr.out.c0; simp [hc0, hcw, intOf]; omega
    · obtain rfl : k = len := by omega
      have HT2 : Hid (T = (0, 0, 3)) := by
        have e := htk.out
        rw [List.drop_eq_nil_of_le (by rw [HL.out]; exact Nat.le_refl _), tkF_nil] at e
        exact e
      clear htk
      go_wp2_with fail
      go_quiet (fail)
      go_wp2_with fail
      refine (fail_any _ B _ 0 3 _ (hdr.out.drewN _)).mono ?_
      rintro e w2 ⟨rfl, hd2, ho2⟩
      go_wp2_with fail
      go_ret
      rw [HT2.out]
      exact ⟨rfl, hd2, hor.trans (((Only.refl B wr).drewN _).trans ho2)⟩

end Go.Proofs.Ytgiepkiogjkjjaa
