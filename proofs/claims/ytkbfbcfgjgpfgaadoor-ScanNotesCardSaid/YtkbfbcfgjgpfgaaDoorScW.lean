/-
  Letters, digits; the runs of them: of scan and of the document.
-/
import Derived.Test.YtkbfbcfgjgpfgaaDoorScP
import Derived.Test.YtkbfbcfgjgpfgaaDoorParsC
import Derived.WalkLawsBesides
namespace Go.Proofs.YtkbfbcfgjgpfgaaDoor
open Go.RowKit

theorem lt_dec {c : UInt8} {b : Bool} (h : b = true ↔ (65 ≤ (c.toNat : Int) ∧ (c.toNat : Int) ≤ 90) ∨ (97 ≤ (c.toNat : Int) ∧ (c.toNat : Int) ≤ 122) ∨ (c.toNat : Int) = 95) : b = isLt c := by
  rw [Bool.eq_iff_iff, h, isLt_iff]
  omega

theorem dg_dec {c : UInt8} {b : Bool} (h : b = true ↔ 48 ≤ (c.toNat : Int) ∧ (c.toNat : Int) ≤ 57) : b = isDg c := by
  rw [Bool.eq_iff_iff, h, isDg_iff]
  omega

theorem letter_any (c : UInt8) (w : World) :
    Calls Tryd.prog 29 #[.int .u8 c.toNat] w fun e w' => e = .returned (.bool (isLt c)) ∧ w = w' := by
  obtain ⟨b, hb⟩ : ∃ b, b = isLt c := ⟨_, rfl⟩
  rw [← hb]
  have H : ∀ d : Bool, (d = true ↔ (65 ≤ (c.toNat : Int) ∧ (c.toNat : Int) ≤ 90) ∨ (97 ≤ (c.toNat : Int) ∧ (c.toNat : Int) ≤ 122) ∨ (c.toNat : Int) = 95) → d = b := fun d h => by rw [hb]; exact lt_dec h
  have HH := Lib.hid H
  clear hb H
  generalize (c.toNat : Int) = x at *
  go_enter Tryd.func29, Tryd.ntmps29
  go_wp2_with fail
  all_goals
    go_ret
    refine ⟨congrArg (fun b => Ending.returned (Value.bool b)) (HH.out _ ?_), rfl⟩
    simp <;> omega

theorem digit_any (c : UInt8) (w : World) :
    Calls Tryd.prog 30 #[.int .u8 c.toNat] w fun e w' => e = .returned (.bool (isDg c)) ∧ w = w' := by
  obtain ⟨b, hb⟩ : ∃ b, b = isDg c := ⟨_, rfl⟩
  rw [← hb]
  have H : ∀ d : Bool, (d = true ↔ 48 ≤ (c.toNat : Int) ∧ (c.toNat : Int) ≤ 57) → d = b := fun d h => by rw [hb]; exact dg_dec h
  have HH := Lib.hid H
  clear hb H
  generalize (c.toNat : Int) = x at *
  go_enter Tryd.func30, Tryd.ntmps30
  go_wp2_with fail
  all_goals
    go_ret
    refine ⟨congrArg (fun b => Ending.returned (Value.bool b)) (HH.out _ ?_), rfl⟩
    simp <;> omega

theorem rletter_any (c : UInt8) (w : World) :
    Calls Tryd.prog 20 #[.int .u8 c.toNat] w fun e w' => e = .returned (.bool (isLt c)) ∧ w = w' := by
  obtain ⟨b, hb⟩ : ∃ b, b = isLt c := ⟨_, rfl⟩
  rw [← hb]
  have H : ∀ d : Bool, (d = true ↔ (65 ≤ (c.toNat : Int) ∧ (c.toNat : Int) ≤ 90) ∨ (97 ≤ (c.toNat : Int) ∧ (c.toNat : Int) ≤ 122) ∨ (c.toNat : Int) = 95) → d = b := fun d h => by rw [hb]; exact lt_dec h
  have HH := Lib.hid H
  clear hb H
  generalize (c.toNat : Int) = x at *
  go_enter Tryd.func20, Tryd.ntmps20
  go_wp2_with fail
  all_goals
    go_ret
    refine ⟨congrArg (fun b => Ending.returned (Value.bool b)) (HH.out _ ?_), rfl⟩
    simp <;> omega

theorem rdigit_any (c : UInt8) (w : World) :
    Calls Tryd.prog 26 #[.int .u8 c.toNat] w fun e w' => e = .returned (.bool (isDg c)) ∧ w = w' := by
  obtain ⟨b, hb⟩ : ∃ b, b = isDg c := ⟨_, rfl⟩
  rw [← hb]
  have H : ∀ d : Bool, (d = true ↔ 48 ≤ (c.toNat : Int) ∧ (c.toNat : Int) ≤ 57) → d = b := fun d h => by rw [hb]; exact dg_dec h
  have HH := Lib.hid H
  clear hb H
  generalize (c.toNat : Int) = x at *
  go_enter Tryd.func26, Tryd.ntmps26
  go_wp2_with fail
  all_goals
    go_ret
    refine ⟨congrArg (fun b => Ending.returned (Value.bool b)) (HH.out _ ?_), rfl⟩
    simp <;> omega

theorem get_list (s : ByteArray) (k : Nat) (h : k < s.size) : s.data.toList[k]'(by simpa using h) = s[k] := rfl

set_option maxHeartbeats 400000 in
set_option maxRecDepth 20000 in
theorem wordSize_any (s : ByteArray) (w : World) (hs : s.size ≤ 140737488351232) :
    Calls Tryd.prog 18 #[.string s] w fun e w' => e = .returned (.int .i64 (wsz s.data.toList)) ∧ w = w' := by
  have HL : Hid (wsz s.data.toList ≤ s.size) := Lib.hid (by simpa using wsz_le s.data.toList)
  go_enter Tryd.func18, Tryd.ntmps18
  go_wp2_with fail
  go_loop [3] (fun i => ∃ k : Nat, k ≤ wsz s.data.toList ∧ i = .int .i64 k) (fun i => s.size - (intOf i).toNat)
  case atStart => exact ⟨0, Nat.zero_le _, rfl⟩
  case round =>
    obtain ⟨k, hk, rfl⟩ := hrel
    have hks : k ≤ s.size := by have := HL.out; omega
    by_cases hlt : k < s.size
    · have hy := Lib.hid (fun h => wsz_yes (l := s.data.toList) (k := k) (by simpa using hlt) hk h)
      have hn := Lib.hid (fun h1 h2 => wsz_no (l := s.data.toList) (k := k) (by simpa using hlt) hk h1 h2)
      have HK := Lib.hid hk
      clear hk
      have hlt' : (k : Int) < s.size := by omega
      by_cases hl : isLt s[k] = true
      · have hy2 := hy.out (.inl hl)
        have HY := Lib.hid hy2
        clear hy2 hy hn
        go_wp2_with (go_at_call 29; refine (letter_any _ _).mono ?_; rintro e w' ⟨rfl, rfl⟩; rw [hl])
        go_round
        case rel => exact ⟨k + 1, HY.out, by go_num⟩
        case measure => simp [intOf]; omega
      · have hl : isLt s[k] = false := by simpa using hl
        by_cases hk0 : k = 0
        · have hk0' : ¬ (0 : Int) < k := by omega
          have HE := Lib.hid (hn.out hl (.inl hk0))
          clear hy hn hk0
          go_wp2_with (go_at_call 29; refine (letter_any _ _).mono ?_; rintro e w' ⟨rfl, rfl⟩; rw [hl])
          go_ret
          exact ⟨by rw [← HE.out]; rfl, rfl⟩
        · have hk0' : (0 : Int) < k := by omega
          by_cases hd : isDg s[k] = true
          · have HY := Lib.hid (hy.out (.inr ⟨by omega, hd⟩))
            clear hy hn
            go_wp2_with first | (go_at_call 29; refine (letter_any _ _).mono ?_; rintro e w' ⟨rfl, rfl⟩; rw [hl]) | (go_at_call 30; refine (digit_any _ _).mono ?_; rintro e w' ⟨rfl, rfl⟩; rw [hd])
            go_round
            case rel => exact ⟨k + 1, HY.out, by go_num⟩
            case measure => simp [intOf]; omega
          · have hd : isDg s[k] = false := by simpa using hd
            have HE := Lib.hid (hn.out hl (.inr hd))
            clear hy hn
            go_wp2_with first | (go_at_call 29; refine (letter_any _ _).mono ?_; rintro e w' ⟨rfl, rfl⟩; rw [hl]) | (go_at_call 30; refine (digit_any _ _).mono ?_; rintro e w' ⟨rfl, rfl⟩; rw [hd])
            go_ret
            exact ⟨by rw [← HE.out]; rfl, rfl⟩
    · have he : k = wsz s.data.toList := by have := HL.out; omega
      have hlt' : ¬ (k : Int) < s.size := by omega
      have HE := Lib.hid he
      clear he
      go_wp2_with fail
      go_ret
      exact ⟨by rw [← HE.out]; rfl, rfl⟩

set_option maxHeartbeats 400000 in
set_option maxRecDepth 20000 in
theorem rrow_any (s : ByteArray) (p : Nat) (w : World) (hs : s.size ≤ 140737488351232) (hp : p ≤ s.size) :
    Calls Tryd.prog 22 #[.string s, .int .i64 p] w fun e w' => e = .returned (.int .i64 (wdK (s.data.toList.drop p))) ∧ w = w' := by
  have HL : Hid (wdK (s.data.toList.drop p) + p ≤ s.size) := Lib.hid (by
    have := wdK_le (s.data.toList.drop p)
    rw [List.length_drop] at this
    have e : s.data.toList.length = s.size := rfl
    omega)
  go_enter Tryd.func22, Tryd.ntmps22
  go_wp2_with fail
  go_loop [5] (fun i => ∃ k : Nat, k ≤ wdK (s.data.toList.drop p) ∧ i = .int .i64 k) (fun i => s.size - (intOf i).toNat)
  case atStart => exact ⟨0, Nat.zero_le _, rfl⟩
  case round =>
    obtain ⟨k, hk, rfl⟩ := hrel
    have hks : p + k ≤ s.size := by have := HL.out; omega
    by_cases hlt : p + k < s.size
    · have e1 : (s.data.toList.drop p)[k]'(by rw [List.length_drop]; have e : s.data.toList.length = s.size := rfl; omega) = s[p + k] := by rw [List.getElem_drop]; rfl
      have hy := wdK_yes (s.data.toList.drop p) k (by rw [List.length_drop]; have e : s.data.toList.length = s.size := rfl; omega) hk
      have hn := wdK_no (s.data.toList.drop p) k (by rw [List.length_drop]; have e : s.data.toList.length = s.size := rfl; omega) hk
      rw [e1] at hy hn
      obtain ⟨q, hq⟩ : ∃ q, p + k = q := ⟨_, rfl⟩
      have hz : (p : Int) + k = (q : Int) := by omega
      have hql : q < s.size := by omega
      have e2 : s[p + k] = s[q] := by subst hq; rfl
      rw [e2] at hy hn
      have HY := Lib.hid hy
      have HN := Lib.hid hn
      have HK := Lib.hid hk
      clear hk e1 hy hn e2 hq
      have hlt' : (q : Int) < s.size := by omega
      obtain ⟨b1, hb1⟩ : ∃ b1, isLt s[q] = b1 := ⟨_, rfl⟩
      obtain ⟨b2, hb2⟩ : ∃ b2, isDg s[q] = b2 := ⟨_, rfl⟩
      by_cases hw : b1 = true ∨ b2 = true
      · have HY2 := Lib.hid (HY.out (by rcases hw with h | h <;> simp [isWd, hb1, hb2, h]))
        clear HY HN
        have h1 : ((! b1) && (! b2)) = false := by rcases hw with rfl | rfl <;> simp
        clear hw
        cases b1 <;> cases b2 <;> simp at h1
        all_goals
          go_wp2_with first | (go_at_call 20; refine (rletter_any _ _).mono ?_; rintro e w' ⟨rfl, rfl⟩; rw [hb1]) | (go_at_call 26; refine (rdigit_any _ _).mono ?_; rintro e w' ⟨rfl, rfl⟩; rw [hb2])
          go_round
          case rel => exact ⟨k + 1, HY2.out, by go_num⟩
          case measure => simp [intOf]; omega
      · have h1 : b1 = false := by cases b1 <;> simp at hw ⊢
        have h2 : b2 = false := by cases b2 <;> simp at hw ⊢
        subst h1 h2
        have HE := Lib.hid (HN.out (by simp [isWd, hb1, hb2]))
        clear HY HN hw
        go_wp2_with first | (go_at_call 20; refine (rletter_any _ _).mono ?_; rintro e w' ⟨rfl, rfl⟩; rw [hb1]) | (go_at_call 26; refine (rdigit_any _ _).mono ?_; rintro e w' ⟨rfl, rfl⟩; rw [hb2])
        go_ret
        exact ⟨by rw [← HE.out]; rfl, rfl⟩
    · have he : k = wdK (s.data.toList.drop p) := by have := HL.out; omega
      have hlt' : ¬ (p : Int) + k < s.size := by omega
      have HE := Lib.hid he
      clear he
      go_wp2_with fail
      go_ret
      exact ⟨by rw [← HE.out]; rfl, rfl⟩

end Go.Proofs.YtkbfbcfgjgpfgaaDoor
