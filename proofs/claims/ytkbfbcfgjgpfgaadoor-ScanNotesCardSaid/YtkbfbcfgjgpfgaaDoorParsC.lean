/-
  calc.Parse.
-/
import Derived.Test.YtkbfbcfgjgpfgaaDoorPars
namespace Go.Proofs.YtkbfbcfgjgpfgaaDoor
open Go.RowKit

theorem extract_list (s : ByteArray) (K : Nat) : (s.extract 0 K).data.toList = s.data.toList.take K := by
  simp

theorem atoi_ok (s : ByteArray) (n : Nat) (w : World) (hs : s.size ≤ 140737488351232) (h : Lib.atoiAll s.data.toList = .ok (n : Int)) :
    Calls Tryd.prog 47 #[.string s] w fun e w' => e = .returned (.tuple #[.int .i64 n, .nilIface]) ∧ Below w.heap.size w w' := by
  refine (Any.strconv_Atoi_ok Tryd.laysC172 s (by omega) n h w).mono ?_
  rintro e w' ⟨rfl, rfl | ⟨t, rfl⟩⟩
  · exact ⟨rfl, Below.refl _ _⟩
  · exact ⟨rfl, Lib.bytesWorld_below _ _ _⟩

theorem atoi_range (s : ByteArray) (w : World) (hs : s.size ≤ 140737488351232) (h : Lib.atoiAll s.data.toList = .range) (hE : ErrAt w) :
    Calls Tryd.prog 47 #[.string s] w fun e w' => ∃ n tp p, e = .returned (.tuple #[.int .i64 n, .iface tp p]) ∧ Below w.heap.size w w' := by
  obtain ⟨tp, p, hv⟩ := hE
  refine (Any.strconv_Atoi_range Tryd.laysC172 s (by omega) h (.iface tp p) w hv (.inr ⟨tp, p, rfl⟩)).mono ?_
  rintro e w' ⟨N, rfl, _, _, hb⟩
  exact ⟨_, _, _, rfl, hb⟩

set_option maxHeartbeats 800000 in
set_option maxRecDepth 20000 in
theorem parse_any (s : ByteArray) (w : World) (hs : s.size ≤ 140737488351232) (hE : ErrAt w) :
    Calls Tryd.prog 41 #[.string s] w fun e w' => e = .returned (.tuple #[.int .i64 (pV s.data.toList), .int .i64 (pN s.data.toList), .int .i64 (pE s.data.toList)]) ∧ Below w.heap.size w w' := by
  by_cases hl0 : s.size = 0
  · have hn : s.data.toList = [] := List.eq_nil_of_length_eq_zero (by simpa using hl0)
    have hs0 : s = ⟨#[]⟩ := ByteArray.ext (Array.toList_inj.1 hn)
    subst hs0
    rw [pE_nil.1, pE_nil.2.1, pE_nil.2.2]
    clear hl0 hn
    go_enter Tryd.func41, Tryd.ntmps41
    go_wp2_with fail
    go_ret3
    exact ⟨rfl, Below.refl _ _⟩
  have hne : s.data.toList ≠ [] := by
    intro e
    have := congrArg List.length e
    exact hl0 (show s.data.toList.length = 0 from this)
  have HNE := Lib.hid hne
  have HL : Hid (dgK s.data.toList ≤ s.size) := Lib.hid (by simpa using dgK_le s.data.toList)
  have hpos : 0 < s.size := by omega
  have hse : s.toList.isEmpty = false := by
    rw [Lib.toList_data]
    cases h : s.data.toList with
    | nil => exact absurd h hne
    | cons a b => rfl
  have HH := Lib.hid (head_some hpos)
  have HD := Lib.hid (cdigits_any s w hs)
  have HER := Lib.hid hE
  clear hne hE
  obtain ⟨K, hK⟩ : ∃ K, dgK s.data.toList = K := ⟨_, rfl⟩
  rw [hK] at HD
  have HK := Lib.hid hK
  have hKs : K ≤ s.size := by rw [← hK]; exact HL.out
  clear hK
  go_enter Tryd.func41, Tryd.ntmps41
  go_wp2_with fail
  refine HD.out.mono ?_
  rintro e w1 ⟨rfl, rfl⟩
  by_cases hbad : K = 0 ∨ (1 < K ∧ s[0] = 48)
  · have HP := Lib.hid (p_form HNE.out (by rw [HK.out, HH.out]; simpa using hbad))
    rcases hbad with rfl | ⟨h1, h2⟩
    · have e : (((0 : Nat) : Int) == 0) = true := rfl
      go_wp2_with fail
      go_ret3
      exact ⟨by rw [HP.out.1, HP.out.2.1, HP.out.2.2]; rfl, Below.refl _ _⟩
    · have e : ((K : Int) == 0) = false := by simp only [beq_eq_false_iff_ne]; omega
      have e1 : (1 : Int) < K := by omega
      have e2 : ((s[0].toNat : Int) == 48) = true := by rw [h2]; rfl
      go_wp2_with fail
      go_ret3
      exact ⟨by rw [HP.out.1, HP.out.2.1, HP.out.2.2]; rfl, Below.refl _ _⟩
  · have HB := Lib.hid hbad
    have hp : 0 < K := by omega
    have e : ((K : Int) == 0) = false := by simp only [beq_eq_false_iff_ne]; omega
    have hcase : (¬ (1 : Int) < K) ∨ ((1 : Int) < K ∧ ((s[0].toNat : Int) == 48) = false) := by
      by_cases h1 : 1 < K
      · refine .inr ⟨by omega, ?_⟩
        have h2 : ¬ s[0] = 48 := fun h2 => hbad (.inr ⟨h1, h2⟩)
        rw [beq_eq_false_iff_ne]
        intro e
        exact h2 (UInt8.toNat.inj (by rw [show (48 : UInt8).toNat = 48 from rfl]; omega))
      · exact .inl (by omega)
    clear hbad
    go_upto_region 4 with fail
    go_cut [22] (fun v wx => v = .bool false ∧ wx = w)
    case first =>
      rcases hcase with h1 | ⟨h1, h2⟩
      · go_wp2_with fail
        go_meet
        exact ⟨rfl, rfl⟩
      · go_wp2_with fail
        go_meet
        exact ⟨rfl, rfl⟩
    case rest =>
      obtain ⟨rfl, rfl⟩ := hcut
      clear e
      have hxs : (s.extract 0 K).size ≤ 140737488351232 := by rw [ByteArray.size_extract]; omega
      have hxl := extract_list s K
      have hat : Lib.atoiAll (s.extract 0 K).data.toList = if dval (s.data.toList.take K) ≤ 9223372036854775807 then .ok (dval (s.data.toList.take K) : Int) else .range := by
        rw [hxl]
        have ht := dgK_take s.data.toList
        rw [HK.out] at ht
        refine atoi_digits _ ht ?_
        intro e
        have := congrArg List.length e
        have e2 : s.data.toList.length = s.size := rfl
        rw [List.length_take, e2, List.length_nil] at this
        omega
      clear hxl
      by_cases hv : dval (s.data.toList.take K) ≤ 9223372036854775807
      · rw [if_pos hv] at hat
        have HP := Lib.hid (p_ok HNE.out (by rw [HK.out, HH.out]; simpa using HB.out) (by rw [HK.out]; exact hv))
        have HA := Lib.hid (atoi_ok _ _ wc hxs hat)
        clear hat hxs hv
        go_wp2_with fail
        refine HA.out.mono ?_
        rintro e w1 ⟨rfl, hb⟩
        go_wp2_with fail
        go_ret3
        exact ⟨by rw [HP.out.1, HP.out.2.1, HP.out.2.2, HK.out]; rfl, hb⟩
      · rw [if_neg hv] at hat
        have HP := Lib.hid (p_num HNE.out (by rw [HK.out, HH.out]; simpa using HB.out) (by rw [HK.out]; omega))
        have HA := Lib.hid (atoi_range _ wc hxs hat HER.out)
        clear hat hxs hv
        go_wp2_with fail
        refine HA.out.mono ?_
        rintro e w1 ⟨n, tp, p, rfl, hb⟩
        go_wp2_with fail
        go_ret3
        exact ⟨by rw [HP.out.1, HP.out.2.1, HP.out.2.2]; rfl, hb⟩

end Go.Proofs.YtkbfbcfgjgpfgaaDoor
