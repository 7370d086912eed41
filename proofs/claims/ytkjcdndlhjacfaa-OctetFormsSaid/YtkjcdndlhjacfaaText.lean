/-
  The decoder's text, and TakeText.
-/
import Derived.Test.YtkjcdndlhjacfaaTakes
import Derived.Laws.BytesArg
namespace Go.Proofs.Ytkjcdndlhjacfaa
open Go.RowKit

/-- A text at the front: its bytes, where it ends, what is wrong first. -/
def txF (at0 : Nat) (bs : List Int) : List Int × Nat × Int :=
  let r := szF 65535 at0 (bs.drop at0)
  if r.2.2 ≠ 0 then ([], 0, r.2.2) else if bs.length - r.2.1 < r.1 then ([], 0, 3) else ((bs.drop r.2.1).take r.1, r.2.1 + r.1, 0)

set_option maxHeartbeats 800000 in
set_option maxRecDepth 20000 in
theorem text_any (w : World) (B at0 : Nat) (a : Option Addr) (len cap : Nat) (bs : List Int) (h : Dec w B at0 a len cap bs) :
    Calls Try.prog 37 #[.pointer (some ⟨B, 0, none⟩)] w fun e w' =>
      e = .returned (.string (strOfNums (txF at0 bs).1)) ∧ DecAt w' B ((txF at0 bs).2.1 : Nat) (txF at0 bs).2.2 (.slice a len cap) ∧ Only B w w' := by
  have HV := Lib.hid (size_any w B at0 a len cap bs 65535 h)
  have H := Lib.hid h
  clear h
  have ht := szF_told 65535 at0 (bs.drop at0)
  obtain ⟨T, hT⟩ : ∃ T, T = txF at0 bs := ⟨_, rfl⟩
  rw [← hT]
  unfold txF at hT
  generalize szF 65535 at0 (bs.drop at0) = r at *
  simp only [] at hT
  obtain ⟨v, q, c⟩ := r
  simp only at hT ht HV
  have HTT := Lib.hid hT
  clear hT
  rcases ht with ⟨rfl, h1, h2, h3⟩ | ⟨hc, rfl, rfl⟩
  · have hq : q ≤ len := by have := H.out.size; have := H.out.pos; simp at h2; omega
    obtain ⟨b, off, rfl, hcell⟩ : ∃ b off, a = some ⟨b, off, none⟩ ∧ ∀ i, i < bs.length → w.cell? ⟨b, off + i, none⟩ = some (.int .u8 (bs.getD i 0)) := by
      rcases H.out.reads with h | h
      · have := H.out.size; subst h; simp at this; omega
      · exact h
    have HC := Lib.hid hcell
    clear hcell
    have hbB : b ≠ B := H.out.apart (fun e => by have := H.out.size; subst e; simp at this; omega) b off rfl
    have hcap := H.out.caps.1
    have hsm := H.out.small
    clear h2
    by_cases hs : len - q < v
    · have HT2 : Hid (T = ([], 0, 3)) := by
        rw [H.out.size] at HTT
        have e := HTT.out
        rw [if_neg (by simp), if_pos hs] at e
        exact e
      clear HTT
      go_enter Try.func37, Try.ntmps37
      go_wp2_with fail
      refine HV.out.mono ?_
      rintro e w1 ⟨rfl, hd, ho⟩
      have HD := Lib.hid hd
      have c2 := hd.c2
      have c0 := hd.c0
      clear hd
      go_wp2_with fail
      refine (failed_any _ B _ _ _ HD.out).mono ?_
      rintro e w2 ⟨rfl, rfl⟩
      go_wp2_with fail
      by_cases hcq : cap = q
      all_goals
        go_quiet (fail)
        go_wp2_with fail
        refine (fail_any _ B _ 0 3 _ (HD.out.drewN _)).mono ?_
        rintro e w2 ⟨rfl, hd2, ho2⟩
        go_wp2_with fail
        go_ret
        rw [HT2.out]
        exact ⟨rfl, hd2, ho.trans (((Only.refl B w1).drewN _).trans ho2)⟩
    · have HT2 : Hid (T = ((bs.drop q).take v, q + v, 0)) := by
        rw [H.out.size] at HTT
        have e := HTT.out
        rw [if_neg (by simp), if_neg hs] at e
        exact e
      clear HTT
      have hs' : v ≤ len - q := by omega
      go_enter Try.func37, Try.ntmps37
      go_wp2_with fail
      refine HV.out.mono ?_
      rintro e w1 ⟨rfl, hd, ho⟩
      have HD := Lib.hid hd
      have c2 := hd.c2
      have c0 := hd.c0
      clear hd
      go_wp2_with fail
      refine (failed_any _ B _ _ _ HD.out).mono ?_
      rintro e w2 ⟨rfl, rfl⟩
      go_wp2_with fail
      by_cases hcq : cap = q
      · obtain rfl : v = 0 := by omega
        go_quiet (fail)
        go_wp2_with fail
        refine (advance_any _ B q 0 0 _ (HD.out.drewN _) (by omega) (by omega) (by omega)).mono ?_
        rintro e w2 ⟨rfl, hd2, ho2⟩
        have hs1 := fun c' => run_convert_bytes_arg (P := Try.prog) w2 22 5 Try.underlying22 Try.underlying5 b off 0 c' [] rfl (fun i hi => absurd hi (by omega)) 9 Try.underlying9
        have HD2 := Lib.hid hd2
        clear hd2
        go_wp2_with fail
        go_ret
        rw [HT2.out]
        exact ⟨rfl, HD2.out, ho.trans (((Only.refl B w1).drewN _).trans ho2)⟩
      · go_quiet (fail)
        go_wp2_with fail
        refine (advance_any _ B q 0 v _ (HD.out.drewN _) (by omega) (by omega) (by omega)).mono ?_
        rintro e w2 ⟨rfl, hd2, ho2⟩
        have ho3 := ho.trans (((Only.refl B w1).drewN _).trans ho2)
        have hs1 := fun c' => run_convert_bytes_arg (P := Try.prog) w2 22 5 Try.underlying22 Try.underlying5 b (off + q) v c' ((bs.drop q).take v)
          (by have := H.out.size; simp; omega) (fun i hi => by
            have e := ho3.1.cell (HC.out (q + i) (by have := H.out.size; omega)) (by simpa using hbB)
            rw [Nat.add_assoc, e]
            have h5 : q + i < bs.length := by have := H.out.size; omega
            simp [List.getD, hi]) 9 Try.underlying9
        have HD2 := Lib.hid hd2
        have HO3 := Lib.hid ho3
        clear hd2 ho3 ho2 ho
        go_wp2_with fail
        go_ret
        rw [HT2.out]
        exact ⟨rfl, HD2.out, HO3.out⟩
  · have HT2 : Hid (T = ([], 0, c)) := by
      have e := HTT.out
      rw [if_pos (by omega)] at e
      exact e
    have hc0 : (c != 0) = true := by rw [bne_iff_ne]; omega
    clear HTT hc
    go_enter Try.func37, Try.ntmps37
    go_wp2_with fail
    refine HV.out.mono ?_
    rintro e w1 ⟨rfl, hd, ho⟩
    have HD := Lib.hid hd
    clear hd
    go_wp2_with fail
    refine (failed_any _ B _ _ _ HD.out).mono ?_
    rintro e w2 ⟨rfl, rfl⟩
    go_wp2_with fail
    go_ret
    rw [HT2.out]
    exact ⟨rfl, HD.out, ho⟩

set_option maxRecDepth 20000 in
theorem takeText_any (w : World) (a : Option Addr) (len cap : Nat) (bs : List Int) (h : Src w a len cap bs) :
    Calls Try.prog 22 #[.slice a len cap] w fun e w' =>
      e = .returned (.tuple #[.string (strOfNums (txF 0 bs).1), .int .i64 ((txF 0 bs).2.1 : Nat), .int .i64 (txF 0 bs).2.2]) ∧ Below w.heap.size w w' := by
  have HV := Lib.hid (text_any _ _ _ _ _ _ _ h.dec)
  clear h
  generalize txF 0 bs = r at *
  go_enter Try.func22, Try.ntmps22
  go_wp2_with fail
  refine HV.out.mono ?_
  rintro e w1 ⟨rfl, hd, ho⟩
  have c0 := hd.c0
  have c1 := hd.c1
  have HO := Lib.hid ho.below
  clear hd ho HV
  go_wp2_with fail
  go_quiet (fail)
  go_wp2_with fail
  go_ret3
  exact ⟨rfl, below_drawn HO.out _⟩

end Go.Proofs.Ytkjcdndlhjacfaa
