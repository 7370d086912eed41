/-
  The document's signs.
-/
import Derived.Test.YtkbfbcfgjgpfgaaDoorScR
namespace Go.Proofs.YtkbfbcfgjgpfgaaDoor
open Go.RowKit

theorem two_no {m : List UInt8} (h : ∀ (j : Nat) (x : List UInt8), j < 7 → twoS[j]? = some x → x ≠ m.take 2) : twoS.contains (m.take 2) = false := by
  cases e : twoS.contains (m.take 2) with
  | false => rfl
  | true =>
    have : m.take 2 ∈ twoS := by simpa using e
    obtain ⟨i, hi⟩ := List.getElem?_of_mem this
    exact absurd rfl (h i _ (by have := (List.getElem?_eq_some_iff.1 hi).1; exact this) hi)

theorem two_size {j : Nat} {x : List UInt8} (h : twoS[j]? = some x) : x.length = 2 := by
  have := List.mem_of_getElem? h
  simp only [twoS, List.mem_cons, List.not_mem_nil, or_false] at this
  rcases this with rfl | rfl | rfl | rfl | rfl | rfl | rfl <;> rfl

theorem sgn_two' {m : List UInt8} (h : twoS.contains (m.take 2) = true) : sgn m = 2 := by unfold sgn; rw [if_pos h]

theorem sgn_one' {c : UInt8} {r : List UInt8} (h : twoS.contains ((c :: r).take 2) = false) : sgn (c :: r) = if oneS.contains c = true then 1 else 0 := by
  unfold sgn
  rw [if_neg (by rw [h]; decide)]

theorem one_no {c : UInt8} (h : ∀ (j : Nat) (x : UInt8), j < 17 → oneS[j]? = some x → x ≠ c) : oneS.contains c = false := by
  cases e : oneS.contains c with
  | false => rfl
  | true =>
    have : c ∈ oneS := by simpa using e
    obtain ⟨i, hi⟩ := List.getElem?_of_mem this
    exact absurd rfl (h i _ (by have := (List.getElem?_eq_some_iff.1 hi).1; exact this) hi)

theorem extract_two (s : ByteArray) (p r : Nat) (hr : p + 2 = r) : (s.extract p r).data.toList = (s.data.toList.drop p).take 2 := by
  rw [ByteArray.data_extract, Array.toList_extract, List.extract_eq_take_drop]
  congr 1
  omega

theorem rows_drewN {g : Nat} {wr : World} (n : Nat) (h : ∀ (j : Nat) (x : List UInt8), twoS[j]? = some x → wr.cell? ⟨g, j, none⟩ = some (txV x)) : ∀ (j : Nat) (x : List UInt8), twoS[j]? = some x → (wr.drewN n).cell? ⟨g, j, none⟩ = some (txV x) := h

set_option maxHeartbeats 1600000 in
set_option maxRecDepth 20000 in
theorem rsign_any (s : ByteArray) (p : Nat) (w : World) (hs : s.size ≤ 140737488351232) (hp : p < s.size) :
    Calls Tryd.prog 28 #[.string s, .int .i64 p] w fun e w' => e = .returned (.int .i64 (sgn (s.data.toList.drop p) : Nat)) ∧ Below w.heap.size w w' := by
  have hlen : s.data.toList.length = s.size := rfl
  have hdc := drop_cons s p hp
  obtain ⟨m, hm⟩ : ∃ m, s.data.toList.drop p = m := ⟨_, rfl⟩
  obtain ⟨r, hr⟩ : ∃ r, p + 2 = r := ⟨_, rfl⟩
  have HX := Lib.hid (extract_two s p r hr)
  have hml : m.length + p = s.size := by rw [← hm, List.length_drop, hlen]; omega
  rw [hm] at hdc HX ⊢
  have hz : (p : Int) + 2 = (r : Int) := by omega
  have HRP := Lib.hid hr
  have HML := Lib.hid hml
  have HDC := Lib.hid hdc
  obtain ⟨g, hg⟩ : ∃ g, g = w.heap.size := ⟨_, rfl⟩
  obtain ⟨W0, hW0⟩ : ∃ W0, W0 = w.alloc (.cells #[.string ⟨#[45, 62]⟩, .string ⟨#[60, 61]⟩, .string ⟨#[62, 61]⟩, .string ⟨#[61, 61]⟩, .string ⟨#[33, 61]⟩, .string ⟨#[38, 38]⟩, .string ⟨#[124, 124]⟩] 9) := ⟨_, rfl⟩
  have hW0' : W0 = w.alloc (.cells (twoS.map txV).toArray 9) := hW0
  have HC0 : Hid (∀ (j : Nat) (x : List UInt8), twoS[j]? = some x → W0.cell? ⟨g, j, none⟩ = some (txV x)) := by
    intro j x hx
    rw [hW0', hg, cell_of_row _ _ _ _ _ _ (heap_alloc_new w _)]
    simp [hx]
  have HB0 : Hid (Below w.heap.size w W0) := by rw [hW0]; exact (Below.refl _ w).alloc (Nat.le_refl _) _
  clear hm hr hlen hdc hW0' hml
  go_enter Tryd.func28, Tryd.ntmps28
  go_upto_region 2 with fail
  rw [← hW0, ← hg]
  clear hW0 hg
  go_wp2_with fail
  go_loopw [6] (fun i wr => ∃ k : Nat, k ≤ 7 ∧ Hid (∀ (j : Nat) (x : List UInt8), j < k → twoS[j]? = some x → x ≠ m.take 2) ∧ i = .int .i64 k ∧ Hid (∀ (j : Nat) (x : List UInt8), twoS[j]? = some x → wr.cell? ⟨g, j, none⟩ = some (txV x)) ∧ Hid (Below w.heap.size w wr)) (fun i _ => 7 - (intOf i).toNat)
  case atStart => exact ⟨0, Nat.zero_le _, fun j x h => absurd h (Nat.not_lt_zero _), rfl, HC0, HB0⟩
  case round =>
    obtain ⟨k, hk, HNO, rfl, HC, HB⟩ := hrel
    by_cases hlt : k < 7
    · have hlt' : (k : Int) < 7 := by omega
      obtain ⟨x, hx⟩ : ∃ x, twoS[k]? = some x := ⟨_, List.getElem?_eq_getElem hlt⟩
      have hc := HC.out k x hx
      obtain ⟨X, hX⟩ : ∃ X : ByteArray, X = ⟨x.toArray⟩ := ⟨_, rfl⟩
      have hXl : X.data.toList = x := by rw [hX]
      have hXv : txV x = .string X := by rw [hX]; rfl
      rw [hXv] at hc
      have HXX := Lib.hid hx
      clear hX hXv
      by_cases hr2 : r ≤ s.size
      · have hr2' : (r : Int) ≤ s.size := by omega
        by_cases he : x = m.take 2
        · have hb : ((s.extract p r).toList == X.toList) = true := by
            rw [Lib.toList_data, Lib.toList_data, hXl, HX.out, he]
            exact beq_self_eq_true _
          have HR : Hid (sgn m = 2) := sgn_two' (by rw [← he]; simpa using List.mem_of_getElem? HXX.out)
          clear he hXl hx
          go_wp2_with fail
          go_quiet (fail)
          go_wp2_with fail
          go_ret
          exact ⟨by rw [HR.out]; rfl, HB.out.trans ((drewN_below wr _).mono HB.out.size)⟩
        · have hb : ((s.extract p r).toList == X.toList) = false := by
            rw [Lib.toList_data, Lib.toList_data, hXl, HX.out]
            exact beq_eq_false_iff_ne.2 (fun e => he e.symm)
          have HR : Hid (∀ (j : Nat) (y : List UInt8), j < k + 1 → twoS[j]? = some y → y ≠ m.take 2) := fun j y hj hy => by
            rcases Nat.lt_succ_iff_lt_or_eq.1 hj with h | rfl
            · exact HNO.out j y h hy
            · rw [HXX.out] at hy
              injection hy with hy
              rw [← hy]
              exact he
          clear he hXl hx
          go_wp2_with fail
          go_quiet (fail)
          go_wp2_with fail
          go_roundw
          case rel => exact ⟨k + 1, by omega, HR, by go_num, HC, HB.out.trans ((drewN_below wr _).mono HB.out.size)⟩
          case measure => simp [intOf]; omega
      · have hr2' : decide ((r : Int) ≤ s.size) = false := decide_eq_false (by omega)
        have HR : Hid (∀ (j : Nat) (y : List UInt8), j < k + 1 → twoS[j]? = some y → y ≠ m.take 2) := fun j y hj hy e => by
          have := two_size hy
          rw [e, List.length_take] at this
          have := HRP.out
          have := HML.out
          omega
        clear hXl hx
        go_wp2_with fail
        go_quiet (fail)
        go_wp2_with fail
        go_roundw
        case rel => exact ⟨k + 1, by omega, HR, by go_num, HC, HB.out.trans ((drewN_below wr _).mono HB.out.size)⟩
        case measure => simp [intOf]; omega
    · have hlt' : ¬ (k : Int) < 7 := by omega
      obtain rfl : k = 7 := by omega
      have HNT := Lib.hid (two_no HNO.out)
      have HSG : Hid (sgn m = if oneS.contains s[p] = true then 1 else 0) := by
        show _ = _
        have := HNT.out
        rw [HDC.out] at this ⊢
        exact sgn_one' this
      obtain ⟨S, hS⟩ : ∃ S : ByteArray, S = ⟨#[123, 125, 40, 41, 91, 93, 59, 44, 61, 43, 45, 42, 47, 37, 60, 62, 33]⟩ := ⟨_, rfl⟩
      have hS1 : S.size = 17 := by rw [hS]; rfl
      have HS2 : Hid (S.data.toList = oneS) := by rw [hS]; rfl
      go_upto_region 7 with fail
      go_cut [7] (fun sv wx => sv = .string S ∧ wx = wr)
      case first =>
        go_wp2_with fail
        go_meet
        exact ⟨by rw [hS], rfl⟩
      obtain ⟨rfl, rfl⟩ := hcut
      clear hS
      go_wp2_with fail
      go_loopw [8] (fun i wx => ∃ k : Nat, k ≤ 17 ∧ Hid (∀ (j : Nat) (x : UInt8), j < k → oneS[j]? = some x → x ≠ s[p]) ∧ i = .int .i64 k ∧ Hid (Below w.heap.size w wx)) (fun i _ => 17 - (intOf i).toNat)
      case atStart => exact ⟨0, Nat.zero_le _, fun j x h => absurd h (Nat.not_lt_zero _), rfl, HB⟩
      case round =>
        obtain ⟨k, hk, HNO1, rfl, HBX⟩ := hrel
        by_cases hl2 : k < 17
        · have hl2' : (k : Int) < 17 := by omega
          obtain ⟨x, hx⟩ : ∃ x, oneS[k]? = some x := ⟨_, List.getElem?_eq_getElem hl2⟩
          have hkS : k < S.size := by omega
          have hx2 : S[k] = x := by
            have e := get_list S k hkS
            rw [← e]
            have e2 : S.data.toList[k]? = some x := by rw [HS2.out]; exact hx
            rw [List.getElem?_eq_getElem (by simpa using hkS)] at e2
            exact Option.some.inj e2
          have HXX := Lib.hid hx
          by_cases he : x = s[p]
          · have hb : ((s[p].toNat : Int) == (S[k].toNat : Int)) = true := by rw [hx2, he]; exact beq_self_eq_true _
            have HR : Hid (sgn m = 1) := by
              show _ = _
              rw [HSG.out, if_pos (by rw [← he]; simpa using List.mem_of_getElem? HXX.out)]
            clear he hx2 hx
            go_wp2_with fail
            go_quiet (fail)
            go_wp2_with fail
            go_ret
            exact ⟨by rw [HR.out]; rfl, HBX.out.trans ((drewN_below _ _).mono HBX.out.size)⟩
          · have hb : ((s[p].toNat : Int) == (S[k].toNat : Int)) = false := by
              rw [hx2, beq_eq_false_iff_ne]
              intro e
              exact he (UInt8.toNat.inj (by omega))
            have HR : Hid (∀ (j : Nat) (y : UInt8), j < k + 1 → oneS[j]? = some y → y ≠ s[p]) := fun j y hj hy => by
              rcases Nat.lt_succ_iff_lt_or_eq.1 hj with h | rfl
              · exact HNO1.out j y h hy
              · rw [HXX.out] at hy
                injection hy with hy
                rw [← hy]
                exact he
            clear he hx2 hx
            go_wp2_with fail
            go_quiet (fail)
            go_wp2_with fail
            go_roundw
            case rel => exact ⟨k + 1, by omega, HR, by go_num, HBX.out.trans ((drewN_below _ _).mono HBX.out.size)⟩
            case measure => simp [intOf]; omega
        · have hl2' : ¬ (k : Int) < 17 := by omega
          obtain rfl : k = 17 := by omega
          have HR : Hid (sgn m = 0) := by
            show _ = _
            rw [HSG.out, if_neg (by rw [one_no HNO1.out]; decide)]
          go_wp2_with fail
          go_ret
          exact ⟨by rw [HR.out]; rfl, HBX.out⟩

end Go.Proofs.YtkbfbcfgjgpfgaaDoor
