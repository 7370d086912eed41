/-
  The document's Same: two rows of names.
-/
import Derived.Test.YtcddbfdbhjkjgaaGreatDoorVaC
namespace Go.Proofs.YtcddbfdbhjkjgaaGreatDoor
open Go.RowKit

theorem take_eq_succ {xs ys : List ByteArray} {i : Nat} {x y : ByteArray} (h : xs.take i = ys.take i) (hx : xs[i]? = some x) (hy : ys[i]? = some y) (e : x = y) : xs.take (i + 1) = ys.take (i + 1) := by
  rw [List.take_add_one, List.take_add_one, h, hx, hy, e]

set_option maxHeartbeats 800000 in
set_option maxRecDepth 20000 in
theorem rsame6_any (w : World) (A B : Option Addr) (n c m d : Nat) (xs ys : List ByteArray) (hx : StrAt w A xs) (hy : StrAt w B ys) (hn : xs.length = n) (hm : ys.length = m) (hc : n ≤ c ∧ c ≤ maxLen) (hd : m ≤ d ∧ d ≤ maxLen) :
    Calls Tryz.prog 78 #[.slice A n c, .slice B m d] w fun e w' => e = .returned (.bool (decide (xs = ys))) ∧ Below w.heap.size w w' := by
  have HX := Lib.hid hx
  have HY := Lib.hid hy
  have HN := Lib.hid hn
  have HM := Lib.hid hm
  have HC : Hid (n ≤ 9223372036854775807) := by
    have h1 := hc.1
    have h2 := hc.2
    unfold maxLen at h2
    exact Nat.le_trans h1 (by omega)
  by_cases hnm : n = m
  · subst hnm
    have q : ((n : Int) != n) = false := by simp [bne]
    obtain ⟨R, hR⟩ : ∃ R, decide (xs = ys) = R := ⟨_, rfl⟩
    have HR := Lib.hid hR
    rw [hR]
    clear hx hy hn hm hc hd hR
    go_enter Tryz.func78, Tryz.ntmps78
    go_wp2_with fail
    go_loopw [5] (fun iv wr => ∃ i : Nat, i ≤ n ∧ iv = .int .i64 (i : Int) ∧ Hid (xs.take i = ys.take i) ∧ Hid (Below w.heap.size w wr)) (fun iv _ => n - (intOf iv).toNat)
    case atStart => exact ⟨0, Nat.zero_le _, rfl, by simp [Hid], Below.refl _ _⟩
    case round =>
      obtain ⟨i, hi, rfl, HT, HB⟩ := hrel
      by_cases him : i < n
      · have HIM := Lib.hid him
        have him' : (i : Int) < n := by omega
        obtain ⟨x, hx⟩ : ∃ x, xs[i]? = some x := ⟨_, List.getElem?_eq_getElem (by rw [HN.out]; exact him)⟩
        obtain ⟨y, hy⟩ : ∃ y, ys[i]? = some y := ⟨_, List.getElem?_eq_getElem (by rw [HM.out]; exact him)⟩
        obtain ⟨go, o, rfl, hgo, x0⟩ := HX.out i x hx
        obtain ⟨gp, p, rfl, hgp, y0⟩ := HY.out i y hy
        have x1 := HB.out.cell (p := ⟨go, o + i, none⟩) hgo
        have y1 := HB.out.cell (p := ⟨gp, p + i, none⟩) hgp
        rw [x0] at x1
        rw [y0] at y1
        have HGX := Lib.hid hx
        have HGY := Lib.hid hy
        clear hx hy x0 y0 hgo hgp
        obtain ⟨b, hb⟩ : ∃ b, (x.toList == y.toList) = b := ⟨_, rfl⟩
        cases b
        · have hne : Hid (xs ≠ ys) := fun h => by
            have h1 := HGX.out
            rw [h, HGY.out] at h1
            injection h1 with h1
            rw [h1] at hb
            simp at hb
          obtain rfl : R = false := by rw [← HR.out]; exact decide_eq_false hne.out
          have hb' : (x.toList != y.toList) = true := by simp only [bne, hb]; rfl
          go_wp2_with fail
          go_quiet (fail)
          go_wp2_with fail
          go_ret
          exact ⟨rfl, HB.out.trans ((drewN_below6 wr _).mono HB.out.size)⟩
        · have hxy : x = y := by
            refine barr_inj ?_
            have := eq_of_beq hb
            rw [Lib.toList_data, Lib.toList_data] at this
            exact this
          have HT2 := Lib.hid (take_eq_succ HT.out HGX.out HGY.out hxy)
          have hb' : (x.toList != y.toList) = false := by simp only [bne, hb]; rfl
          clear hxy
          go_wp2_with fail
          go_quiet (fail)
          go_wp2_with fail
          go_roundw
          case rel => exact ⟨i + 1, by have := HIM.out; omega, by have h1 := HIM.out; have h2 := HC.out; rw [Go.IntWalk.wrap64_in _ ⟨by omega, by omega⟩]; rfl, HT2, HB.out.trans ((drewN_below6 wr _).mono HB.out.size)⟩
          case measure => have h1 := HIM.out; have h2 := HC.out; rw [Go.IntWalk.wrap64_in _ ⟨by omega, by omega⟩]; simp [intOf]; omega
      · have him' : ¬ (i : Int) < n := by omega
        obtain rfl : R = true := by
          rw [← HR.out]
          refine decide_eq_true ?_
          have := HT.out
          rw [List.take_of_length_le (by rw [HN.out]; omega), List.take_of_length_le (by rw [HM.out]; omega)] at this
          exact this
        go_wp2_with fail
        go_ret
        exact ⟨rfl, HB.out⟩
  · have q : ((n : Int) != m) = true := by simp only [bne, ne_beq (show (n : Int) ≠ m by omega)]; rfl
    have hne : xs ≠ ys := fun h => hnm (by rw [← hn, ← hm, h])
    rw [decide_eq_false hne]
    clear hne hx hy hn hm hc hd hnm
    go_enter Tryz.func78, Tryz.ntmps78
    go_wp2_with fail
    go_ret
    exact ⟨rfl, Below.refl _ _⟩

end Go.Proofs.YtcddbfdbhjkjgaaGreatDoor
