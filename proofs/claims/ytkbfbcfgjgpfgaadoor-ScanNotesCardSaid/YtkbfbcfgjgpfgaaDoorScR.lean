/-
  The document's blanks.
-/
import Derived.Test.YtkbfbcfgjgpfgaaDoorScX
namespace Go.Proofs.YtkbfbcfgjgpfgaaDoor
open Go.RowKit

theorem nat_beq (c : UInt8) (n : Nat) (hn : n < 256) : (((c.toNat : Int) == (n : Int)) = true ↔ c = UInt8.ofNat n) := by
  rw [beq_iff_eq]
  constructor
  · intro h
    apply UInt8.toNat.inj
    rw [UInt8.toNat_ofNat']
    omega
  · rintro rfl
    rw [UInt8.toNat_ofNat']
    omega

theorem blK_cons (c : UInt8) (r : List UInt8) : blK false (c :: r) = if c = 47 ∧ r.head? = some 47 then blK true r + 1 else if isBl c = true then blK false r + 1 else 0 := rfl

theorem lnK_cons (c : UInt8) (r : List UInt8) : lnK (c :: r) = if c = 10 then 0 else lnK r + 1 := rfl

theorem head_drop (s : ByteArray) (q : Nat) : (s.data.toList.drop q).head? = if h : q < s.size then some s[q] else none := by
  by_cases h : q < s.size
  · rw [dif_pos h, drop_cons s q h]; rfl
  · rw [dif_neg h, List.drop_of_length_le (by have e : s.data.toList.length = s.size := rfl; omega)]; rfl

set_option maxHeartbeats 1600000 in
set_option maxRecDepth 20000 in
theorem rblanks_any (s : ByteArray) (p : Nat) (w : World) (hs : s.size ≤ 140737488351232) (hp : p ≤ s.size) :
    Calls Tryd.prog 16 #[.string s, .int .i64 p] w fun e w' => e = .returned (.int .i64 ((p + blK false (s.data.toList.drop p) : Nat) : Int)) ∧ w = w' := by
  have hlen : s.data.toList.length = s.size := rfl
  obtain ⟨E, hE⟩ : ∃ E, p + blK false (s.data.toList.drop p) = E := ⟨_, rfl⟩
  rw [hE]
  have HE := Lib.hid hE
  clear hE
  go_enter Tryd.func16, Tryd.ntmps16
  go_wp2_with fail
  go_loop [1] (fun i => ∃ q : Nat, q ≤ s.size ∧ Hid (q + blK false (s.data.toList.drop q) = E) ∧ i = .int .i64 q) (fun i => s.size - (intOf i).toNat)
  case atStart => exact ⟨p, hp, HE, rfl⟩
  case round =>
    obtain ⟨q, hq, HQ, rfl⟩ := hrel
    by_cases hlt : q < s.size
    · have hlt' : (q : Int) < s.size := by omega
      obtain ⟨r, hr⟩ : ∃ r, q + 1 = r := ⟨_, rfl⟩
      have hz : (q : Int) + 1 = (r : Int) := by omega
      have HRQ := Lib.hid hr
      have hdq := drop_cons s q hlt
      rw [hr] at hdq
      have HDQ := Lib.hid hdq
      have hBL := Lib.hid (blK_cons s[q] (s.data.toList.drop r))
      rw [← HDQ.out, head_drop s r] at hBL
      obtain ⟨b47, h47⟩ : ∃ b, ((s[q].toNat : Int) == 47) = b := ⟨_, rfl⟩
      obtain ⟨b9, h9⟩ : ∃ b, ((s[q].toNat : Int) == 9) = b := ⟨_, rfl⟩
      obtain ⟨b10, h10⟩ : ∃ b, ((s[q].toNat : Int) == 10) = b := ⟨_, rfl⟩
      obtain ⟨b13, h13⟩ : ∃ b, ((s[q].toNat : Int) == 13) = b := ⟨_, rfl⟩
      obtain ⟨b32, h32⟩ : ∃ b, ((s[q].toNat : Int) == 32) = b := ⟨_, rfl⟩
      have E47 : Hid (s[q] = 47 ↔ b47 = true) := by rw [← h47]; exact (nat_beq s[q] 47 (by decide)).symm
      have EBL : Hid (isBl s[q] = (b9 || b10 || b13 || b32)) := by
        show _ = _
        rw [← h9, ← h10, ← h13, ← h32]
        rw [Bool.eq_iff_iff]
        simp only [isBl, Bool.or_eq_true, decide_eq_true_eq]
        rw [show ((s[q].toNat : Int) == 9) = true ↔ _ from nat_beq s[q] 9 (by decide), show ((s[q].toNat : Int) == 10) = true ↔ _ from nat_beq s[q] 10 (by decide), show ((s[q].toNat : Int) == 13) = true ↔ _ from nat_beq s[q] 13 (by decide), show ((s[q].toNat : Int) == 32) = true ↔ _ from nat_beq s[q] 32 (by decide)]
        rfl
      clear hr hdq
      cases b47
      · cases b9
        · cases b10
          · cases b13
            · cases b32
              · -- no blank
                have HZ : Hid (blK false (s.data.toList.drop q) = 0) := by
                  show _ = _
                  rw [hBL.out, if_neg (fun h => absurd (E47.out.1 h.1) (by decide)), if_neg (by rw [EBL.out]; decide)]
                clear hlen
                have HR2 : Hid (q = E) := by
                  show _ = _
                  rw [← HQ.out, HZ.out]
                  rfl
                go_wp2_with fail
                go_ret
                exact ⟨by rw [← HR2.out]; rfl, rfl⟩
              · -- a blank
                have HB : Hid (blK false (s.data.toList.drop q) = 1 + blK false (s.data.toList.drop r)) := by
                  show _ = _
                  rw [hBL.out, if_neg (fun h => absurd (E47.out.1 h.1) (by decide)), if_pos (by rw [EBL.out]; rfl)]
                  omega
                have HQ2 : Hid (r + blK false (s.data.toList.drop r) = E) := by
                  show _ = _
                  rw [← HQ.out, HB.out, ← HRQ.out]
                  omega
                have hrs : r ≤ s.size := by omega
                clear hlen
                go_wp2_with fail
                go_round
                case rel => exact ⟨r, hrs, HQ2, rfl⟩
                case measure => simp [intOf]; omega
            · -- a blank
              have HB : Hid (blK false (s.data.toList.drop q) = 1 + blK false (s.data.toList.drop r)) := by
                show _ = _
                rw [hBL.out, if_neg (fun h => absurd (E47.out.1 h.1) (by decide)), if_pos (by rw [EBL.out]; rfl)]
                omega
              have HQ2 : Hid (r + blK false (s.data.toList.drop r) = E) := by
                show _ = _
                rw [← HQ.out, HB.out, ← HRQ.out]
                omega
              have hrs : r ≤ s.size := by omega
              clear hlen
              go_wp2_with fail
              go_round
              case rel => exact ⟨r, hrs, HQ2, rfl⟩
              case measure => simp [intOf]; omega
          · -- a blank
            have HB : Hid (blK false (s.data.toList.drop q) = 1 + blK false (s.data.toList.drop r)) := by
              show _ = _
              rw [hBL.out, if_neg (fun h => absurd (E47.out.1 h.1) (by decide)), if_pos (by rw [EBL.out]; rfl)]
              omega
            have HQ2 : Hid (r + blK false (s.data.toList.drop r) = E) := by
              show _ = _
              rw [← HQ.out, HB.out, ← HRQ.out]
              omega
            have hrs : r ≤ s.size := by omega
            clear hlen
            go_wp2_with fail
            go_round
            case rel => exact ⟨r, hrs, HQ2, rfl⟩
            case measure => simp [intOf]; omega
        · -- a blank
          have HB : Hid (blK false (s.data.toList.drop q) = 1 + blK false (s.data.toList.drop r)) := by
            show _ = _
            rw [hBL.out, if_neg (fun h => absurd (E47.out.1 h.1) (by decide)), if_pos (by rw [EBL.out]; rfl)]
            omega
          have HQ2 : Hid (r + blK false (s.data.toList.drop r) = E) := by
            show _ = _
            rw [← HQ.out, HB.out, ← HRQ.out]
            omega
          have hrs : r ≤ s.size := by omega
          clear hlen
          go_wp2_with fail
          go_round
          case rel => exact ⟨r, hrs, HQ2, rfl⟩
          case measure => simp [intOf]; omega
      · have hc : s[q].toNat = 47 := by
          have := (beq_iff_eq.1 h47)
          omega
        have g9 : b9 = false := by rw [← h9, hc]; rfl
        have g10 : b10 = false := by rw [← h10, hc]; rfl
        have g13 : b13 = false := by rw [← h13, hc]; rfl
        have g32 : b32 = false := by rw [← h32, hc]; rfl
        subst g9 g10 g13 g32
        have HC10 : Hid (s[q] ≠ 10) := fun e => by rw [e] at hc; cases hc
        clear hc
        by_cases hrl : r < s.size
        · have hrl' : (r : Int) < s.size := by omega
          obtain ⟨b2, h2⟩ : ∃ b, ((s[r].toNat : Int) == 47) = b := ⟨_, rfl⟩
          have EB2 : Hid (s[r] = 47 ↔ b2 = true) := by rw [← h2]; exact (nat_beq s[r] 47 (by decide)).symm
          rw [dif_pos hrl] at hBL
          cases b2
          · have HZ : Hid (blK false (s.data.toList.drop q) = 0) := by
              show _ = _
              rw [hBL.out, if_neg (fun h => absurd (EB2.out.1 (Option.some.inj h.2)) (by decide)), if_neg (by rw [EBL.out]; decide)]
            clear hlen
            have HR2 : Hid (q = E) := by
              show _ = _
              rw [← HQ.out, HZ.out]
              rfl
            go_wp2_with fail
            go_ret
            exact ⟨by rw [← HR2.out]; rfl, rfl⟩
          · have HZ : Hid (blK false (s.data.toList.drop q) = lnK (s.data.toList.drop q) + blK false (s.data.toList.drop (q + lnK (s.data.toList.drop q)))) := by
              show _ = _
              have e1 : lnK (s.data.toList.drop q) = lnK (s.data.toList.drop r) + 1 := by rw [HDQ.out, lnK_cons, if_neg HC10.out]
              rw [e1, hBL.out, if_pos ⟨E47.out.2 rfl, by rw [EB2.out.2 rfl]⟩, blK_note, List.drop_drop, ← HRQ.out]
              have e2 : q + 1 + lnK (s.data.toList.drop (q + 1)) = q + (lnK (s.data.toList.drop (q + 1)) + 1) := by omega
              rw [e2]
              omega
            have HPOS : Hid (0 < lnK (s.data.toList.drop q)) := by
              show 0 < _
              rw [HDQ.out, lnK_cons, if_neg HC10.out]
              omega
            have HLE : Hid (q + lnK (s.data.toList.drop q) ≤ s.size) := by
              have := lnK_le (s.data.toList.drop q)
              rw [List.length_drop, hlen] at this
              show _ ≤ _
              omega
            have HLEN := Lib.hid hlen
            clear hlen
            go_wp2_with fail
            go_loop [1] (fun i => ∃ k : Nat, q ≤ k ∧ k ≤ s.size ∧ Hid (q + lnK (s.data.toList.drop q) = k + lnK (s.data.toList.drop k)) ∧ i = .int .i64 k) (fun i => s.size - (intOf i).toNat)
            case atStart => exact ⟨q, Nat.le_refl _, hq, rfl, rfl⟩
            case round =>
              obtain ⟨k, hqk, hks, HKL, rfl⟩ := hrel
              by_cases hkl : k < s.size
              · have hkl' : (k : Int) < s.size := by omega
                have HKC : Hid (lnK (s.data.toList.drop k) = if s[k] = 10 then 0 else lnK (s.data.toList.drop (k + 1)) + 1) := by
                  show _ = _
                  rw [drop_cons s k hkl, lnK_cons]
                obtain ⟨b5, h5⟩ : ∃ b, ((s[k].toNat : Int) == 10) = b := ⟨_, rfl⟩
                have E5 : Hid (s[k] = 10 ↔ b5 = true) := by rw [← h5]; exact (nat_beq s[k] 10 (by decide)).symm
                cases b5
                · have HK2 : Hid (q + lnK (s.data.toList.drop q) = (k + 1) + lnK (s.data.toList.drop (k + 1))) := by
                    show _ = _
                    rw [HKL.out, HKC.out, if_neg (fun e => absurd (E5.out.1 e) (by decide))]
                    omega
                  go_wp2_with fail
                  go_round
                  case rel => exact ⟨k + 1, by omega, hkl, HK2, by go_num⟩
                  case measure => simp [intOf]; omega
                · have HK2 : Hid (q + lnK (s.data.toList.drop q) = k) := by
                    show _ = _
                    rw [HKL.out, HKC.out, if_pos (E5.out.2 rfl)]
                    rfl
                  have HQ3 : Hid (k + blK false (s.data.toList.drop k) = E) := by
                    show _ = _
                    rw [← HQ.out, HZ.out, HK2.out, ← Nat.add_assoc, HK2.out]
                  have hqk2 : q < k := by have := HK2.out; have := HPOS.out; omega
                  go_wp2_with fail
                  go_round
                  case rel => exact ⟨k, hks, HQ3, rfl⟩
                  case measure => simp [intOf]; omega
              · have hkl' : ¬ (k : Int) < s.size := by omega
                have HK2 : Hid (q + lnK (s.data.toList.drop q) = k) := by
                  show _ = _
                  rw [HKL.out, List.drop_of_length_le (i := k) (by rw [HLEN.out]; omega)]
                  rfl
                have HQ3 : Hid (k + blK false (s.data.toList.drop k) = E) := by
                  show _ = _
                  rw [← HQ.out, HZ.out, HK2.out, ← Nat.add_assoc, HK2.out]
                have hqk2 : q < k := by have := HK2.out; have := HPOS.out; omega
                go_wp2_with fail
                go_round
                case rel => exact ⟨k, hks, HQ3, rfl⟩
                case measure => simp [intOf]; omega
        · have hrl' : ¬ (r : Int) < s.size := by omega
          rw [dif_neg hrl] at hBL
          have HZ : Hid (blK false (s.data.toList.drop q) = 0) := by
            show _ = _
            rw [hBL.out, if_neg (fun h => by cases h.2), if_neg (by rw [EBL.out]; decide)]
          clear hlen
          have HR2 : Hid (q = E) := by
            show _ = _
            rw [← HQ.out, HZ.out]
            rfl
          go_wp2_with fail
          go_ret
          exact ⟨by rw [← HR2.out]; rfl, rfl⟩
    · have hlt' : ¬ (q : Int) < s.size := by omega
      have HR2 : Hid (q = E) := by
        show _ = _
        rw [← HQ.out, List.drop_of_length_le (by rw [hlen]; omega)]
        rfl
      clear hlen
      go_wp2_with fail
      go_ret
      exact ⟨by rw [← HR2.out]; rfl, rfl⟩

end Go.Proofs.YtkbfbcfgjgpfgaaDoor
