/-
  calc.Parse and the document's Parse.
-/
import Derived.Test.YtkbfbcfgjgpfgaaDoorCText
import Derived.Test.YtkbfbcfgjgpfgaaDoorParsP
import Derived.Shelf.Strconv.ErrVarAll
import Derived.WalkKit
import Derived.Deep.CutBlock
import Derived.Deep.DeepCutAuto
namespace Go.Proofs.YtkbfbcfgjgpfgaaDoor
open Go.RowKit

theorem isDg_of {c : UInt8} (h1 : 48 ≤ (c.toNat : Int)) (h2 : (c.toNat : Int) ≤ 57) : isDg c = true := isDg_iff.2 ⟨by omega, by omega⟩
theorem isDg_not {c : UInt8} (h : ¬ (48 ≤ (c.toNat : Int) ∧ (c.toNat : Int) ≤ 57)) : isDg c = false := by
  cases e : isDg c with
  | false => rfl
  | true => exact absurd (isDg_iff.1 e) (by omega)

set_option maxHeartbeats 400000 in
set_option maxRecDepth 20000 in
theorem cdigits_any (s : ByteArray) (w : World) (hs : s.size ≤ 140737488351232) :
    Calls Tryd.prog 46 #[.string s] w fun e w' => e = .returned (.int .i64 (dgK s.data.toList)) ∧ w = w' := by
  have HL : Hid (dgK s.data.toList ≤ s.size) := Lib.hid (by simpa using dgK_le s.data.toList)
  go_enter Tryd.func46, Tryd.ntmps46
  go_wp2
  go_loop [3] (fun i => ∃ k : Nat, k ≤ dgK s.data.toList ∧ i = .int .i64 k) (fun i => s.size - (intOf i).toNat)
  case atStart => exact ⟨0, Nat.zero_le _, rfl⟩
  case round =>
    obtain ⟨k, hk, rfl⟩ := hrel
    have hks : k ≤ s.size := by have := HL.out; omega
    by_cases hlt : k < s.size
    · have hy := Lib.hid (dgK_yes s.data.toList k (by simpa using hlt) hk)
      have hn := Lib.hid (dgK_no s.data.toList k (by simpa using hlt) hk)
      have HK := Lib.hid hk
      clear hk
      go_wp2
      · go_round
        case rel => exact ⟨k + 1, hy.out (isDg_of (by assumption) (by assumption)), by go_num⟩
        case measure => simp [intOf]; omega
      all_goals
        go_ret
        have he := hn.out (isDg_not (by simp only [Array.getElem_toList]; show ¬ (48 ≤ (s[k].toNat : Int) ∧ (s[k].toNat : Int) ≤ 57); omega))
        exact ⟨by rw [← he]; rfl, rfl⟩
    · have he : k = dgK s.data.toList := by have := HL.out; omega
      have HE := Lib.hid he
      clear he
      go_wp2
      go_ret
      exact ⟨by rw [← HE.out]; rfl, rfl⟩

theorem head_some {s : ByteArray} (h : 0 < s.size) : s.data.toList.head? = some s[0] := by
  rw [List.head?_eq_getElem?, List.getElem?_eq_getElem (by simpa using h)]
  rfl

theorem take_more (s : ByteArray) (k : Nat) (h : k < s.size) : s.data.toList.take (k + 1) = s.data.toList.take k ++ [s[k]] := by
  rw [List.take_succ_eq_append_getElem (by simpa using h)]
  rfl

set_option maxHeartbeats 800000 in
set_option maxRecDepth 20000 in
theorem rparse_any (s : ByteArray) (w : World) (hs : s.size ≤ 140737488351232) :
    Calls Tryd.prog 27 #[.string s] w fun e w' => e = .returned (.tuple #[.int .i64 (pV s.data.toList), .int .i64 (pN s.data.toList), .int .i64 (pE s.data.toList)]) ∧ w = w' := by
  by_cases hl0 : s.size = 0
  · have hn : s.data.toList = [] := List.eq_nil_of_length_eq_zero (by simpa using hl0)
    have hl0' : (s.size : Int) = 0 := by omega
    rw [hn, pE_nil.1, pE_nil.2.1, pE_nil.2.2]
    clear hn hl0
    go_enter Tryd.func27, Tryd.ntmps27
    go_wp2_with fail
    go_ret3
    exact ⟨rfl, rfl⟩
  have hl0' : ((s.size : Int) == 0) = false := by simp only [beq_eq_false_iff_ne]; omega
  have hne : s.data.toList ≠ [] := by
    intro e
    have := congrArg List.length e
    exact hl0 (show s.data.toList.length = 0 from this)
  have HNE := Lib.hid hne
  have HL : Hid (dgK s.data.toList ≤ s.size) := Lib.hid (by simpa using dgK_le s.data.toList)
  clear hne
  go_enter Tryd.func27, Tryd.ntmps27
  go_upto_block 0 with fail
  go_cut [5] (fun v wx => v = .int .i64 (dgK s.data.toList) ∧ wx = w)
  case first =>
    go_wp2_with fail
    go_loop [5] (fun i => ∃ k : Nat, k ≤ dgK s.data.toList ∧ i = .int .i64 k) (fun i => s.size - (intOf i).toNat)
    case atStart => exact ⟨0, Nat.zero_le _, rfl⟩
    case round =>
      obtain ⟨k, hk, rfl⟩ := hrel
      have hks : k ≤ s.size := by have := HL.out; omega
      by_cases hlt : k < s.size
      · have hy := Lib.hid (dgK_yes s.data.toList k (by simpa using hlt) hk)
        have hn := Lib.hid (dgK_no s.data.toList k (by simpa using hlt) hk)
        have HK := Lib.hid hk
        clear hk
        go_wp2
        · go_round
          case rel => exact ⟨k + 1, hy.out (isDg_of (by assumption) (by assumption)), by go_num⟩
          case measure => simp [intOf]; omega
        all_goals
          have he := Lib.hid (hn.out (isDg_not (by simp only [Array.getElem_toList]; show ¬ (48 ≤ (s[k].toNat : Int) ∧ (s[k].toNat : Int) ≤ 57); omega)))
          go_meet
          exact (by rw [← he.out]; exact ⟨rfl, rfl⟩)
      · have he : k = dgK s.data.toList := by have := HL.out; omega
        have HE := Lib.hid he
        clear he
        go_wp2
        go_meet
        exact (by rw [← HE.out]; exact ⟨rfl, rfl⟩)
  case rest =>
    obtain ⟨rfl, rfl⟩ := hcut
    have hpos : 0 < s.size := by omega
    have HH := Lib.hid (head_some hpos)
    have HV0 := Lib.hid (Nat.lt_irrefl 0)
    obtain ⟨K, hK⟩ : ∃ K, dgK s.data.toList = K := ⟨_, rfl⟩
    rw [hK]
    have HK := Lib.hid hK
    have hKs : K ≤ s.size := by rw [← hK]; exact HL.out
    clear hK
    by_cases hbad : K = 0 ∨ (1 < K ∧ s[0] = 48)
    · have HP := Lib.hid (p_form HNE.out (by rw [HK.out, HH.out]; simpa using hbad))
      rcases hbad with rfl | ⟨h1, h2⟩
      · have e : (((0 : Nat) : Int) == 0) = true := rfl
        go_wp2_with fail
        go_ret3
        exact ⟨by rw [HP.out.1, HP.out.2.1, HP.out.2.2]; rfl, rfl⟩
      · have e : ((K : Int) == 0) = false := by simp only [beq_eq_false_iff_ne]; omega
        have e1 : (1 : Int) < K := by omega
        have e2 : ((s[0].toNat : Int) == 48) = true := by rw [h2]; rfl
        go_wp2_with fail
        go_ret3
        exact ⟨by rw [HP.out.1, HP.out.2.1, HP.out.2.2]; rfl, rfl⟩
    · have HB := Lib.hid hbad
      have hp : 0 < K := by omega
      have e : ((K : Int) == 0) = false := by simp only [beq_eq_false_iff_ne]; omega
      have hcase : (¬ (1 : Int) < K) ∨ ((1 : Int) < K ∧ ((s[0].toNat : Int) == 48) = false) := by
        by_cases h1 : 1 < K
        · refine .inr ⟨by omega, ?_⟩
          have h2 : ¬ s[0] = 48 := fun h2 => hbad (.inr ⟨h1, h2⟩)
          rw [beq_eq_false_iff_ne]
          intro e
          exact h2 (UInt8.toNat.inj (by rw [show (48 : UInt8).toNat = 48 from rfl]; omega))
        · exact .inl (by omega)
      clear hbad
      go_upto_region 6 with fail
      go_cut [40] (fun v wx => v = .bool false ∧ wx = wc)
      case first =>
        rcases hcase with h1 | ⟨h1, h2⟩
        · go_wp2_with fail
          go_meet
          exact ⟨rfl, rfl⟩
        · go_wp2_with fail
          go_meet
          exact ⟨rfl, rfl⟩
      case rest =>
        obtain ⟨rfl, rfl⟩ := hcut
        go_wp2_with fail
        go_loop [6, 7] (fun v i => ∃ j n : Nat, j ≤ K ∧ i = .int .i64 j ∧ v = .int .i64 n ∧ Hid (n = dval (s.data.toList.take j)) ∧ Hid (n ≤ 9223372036854775807)) (fun _ i => K - (intOf i).toNat)
        case atStart => exact ⟨0, 0, Nat.zero_le _, rfl, rfl, rfl, Nat.zero_le _⟩
        case round =>
          obtain ⟨j, n, hj, rfl, rfl, hn, hm⟩ := hrel
          by_cases hlt : j < K
          · have hjs : j < s.size := by omega
            have hdg := isDg_iff.1 (dgK_digit s.data.toList j (by simpa using hjs) (by rw [HK.out]; exact hlt))
            simp only [Array.getElem_toList] at hdg
            have hd0 : 48 ≤ (s[j].toNat : Int) := by have := hdg.1; show (48 : Int) ≤ ((s.data[j].toNat : Nat) : Int); omega
            have hd1 : (s[j].toNat : Int) ≤ 57 := by have := hdg.2; show ((s.data[j].toNat : Nat) : Int) ≤ 57; omega
            clear hdg
            have hlt' : (j : Int) < K := by omega
            have HS := Lib.hid (show dval (s.data.toList.take (j + 1)) = 10 * n + (s[j].toNat - 48) by rw [take_more s j hjs, dval_snoc, ← hn.out])
            go_wp2_with fail
            · have hgt : 9223372036854775807 < dval (s.data.toList.take (dgK s.data.toList)) := by
                have h1 := dval_mono s.data.toList (j + 1) K (by omega)
                rw [HK.out]
                rw [HS.out] at h1
                omega
              have HP := Lib.hid (p_num HNE.out (by rw [HK.out, HH.out]; simpa using HB.out) hgt)
              go_ret3
              exact ⟨by rw [HP.out.1, HP.out.2.1, HP.out.2.2]; rfl, rfl⟩
            · go_round
              case rel =>
                refine ⟨j + 1, 10 * n + (s[j].toNat - 48), by omega, by go_num, ?_, HS.out.symm, ?_⟩
                · congr 1
                  omega
                · show _ ≤ _
                  omega
              case measure => simp [intOf]; omega
          · have hlt' : ¬ (j : Int) < K := by omega
            have hjK : j = K := by omega
            subst hjK
            have HP := Lib.hid (p_ok HNE.out (by rw [HK.out, HH.out]; simpa using HB.out) (by rw [HK.out, ← hn.out]; exact hm.out))
            go_wp2_with fail
            go_ret3
            exact ⟨by rw [HP.out.1, HP.out.2.1, HP.out.2.2, HK.out, ← hn.out]; rfl, rfl⟩

end Go.Proofs.YtkbfbcfgjgpfgaaDoor
