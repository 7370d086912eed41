/-
  The law's own helper OwnInts.
-/
import Derived.Test.YtkjcdndlhjacfaaIntsT
import Derived.Test.YtkjcdndlhjacfaaCounts
namespace Go.Proofs.Ytkjcdndlhjacfaa
open Go.RowKit

/-- In the middle of a row of int: its first k cells are written. -/
def MidI (w : World) (g c k : Nat) (x : Int) : Prop :=
  ∃ cur : Array Value, w.heap[g]? = some (.cells cur 3 (0, 0)) ∧ cur.size = c ∧ cur.toList.take k = List.replicate k (Value.int .i64 x)

theorem MidI.step {w : World} {g c k : Nat} {x : Int} (h : MidI w g c k x) (hk : k < c) : MidI (w.setCell ⟨g, k, none⟩ (.int .i64 x)) g c (k + 1) x := by
  obtain ⟨cur, hg, hs, ht⟩ := h
  refine ⟨cur.setIfInBounds k (.int .i64 x), heap_setCell_row hg, by simpa using hs, ?_⟩
  have hl : k < cur.toList.length := by simp; omega
  rw [Array.toList_setIfInBounds, List.take_set, List.take_succ_eq_append_getElem hl, ht, List.set_append_right _ _ (by simp)]
  simp [List.replicate_succ']

theorem MidI.cell {w : World} {g c k : Nat} {x : Int} (h : MidI w g c k x) (hk : k < c) : ∃ v, w.cell? ⟨g, k, none⟩ = some v := by
  obtain ⟨cur, hg, hs, ht⟩ := h
  exact ⟨cur[k], by rw [cell_of_row w g k _ _ _ hg]; simp [hs, hk]⟩

theorem MidI.free {w : World} {g c k : Nat} {x : Int} (h : MidI w g c k x) (i : Nat) : w.frozen? ⟨g, i, none⟩ = false := by
  obtain ⟨cur, hg, hs, ht⟩ := h
  exact frozen_of_row w g i _ _ hg

theorem MidI.at {w : World} {g c : Nat} {x : Int} (h : MidI w g c c x) (k : Nat) (hk : k < c) : w.cell? ⟨g, k, none⟩ = some (.int .i64 x) := by
  obtain ⟨cur, hg, hs, ht⟩ := h
  rw [cell_of_row w g k _ _ _ hg]
  have h1 : (cur.toList.take c)[k]? = (List.replicate c (Value.int .i64 x))[k]? := by rw [ht]
  rw [List.getElem?_take, if_pos hk, Array.getElem?_toList] at h1
  rw [h1]; simp [hk]

theorem MidI.other {w w' : World} {g c k : Nat} {x : Int} (h : MidI w g c k x) (hh : w'.heap[g]? = w.heap[g]?) : MidI w' g c k x := by
  obtain ⟨cur, hg, r⟩ := h
  exact ⟨cur, by rw [hh]; exact hg, r⟩

set_option maxHeartbeats 1600000 in
set_option maxRecDepth 20000 in
theorem owni_some (w : World) (B ga na ca gb nb cb : Nat) (ha : ∀ x, MidI w ga ca 0 x) (hb : ∀ x, MidI w gb cb 0 x) (hna : na ≤ ca) (hnb : nb ≤ cb) (hca : ca ≤ 9223372036854775807) (hcb : cb ≤ 9223372036854775807)
    (hBa : B ≤ ga) (hBb : B ≤ gb) (hab : ga ≠ gb) :
    Calls Try.prog 30 #[.slice (some ⟨ga, 0, none⟩) na ca, .slice (some ⟨gb, 0, none⟩) nb cb] w fun e w' => e = .returned (.bool true) ∧ Below B w w' := by
  have HA := Lib.hid ha
  have HB := Lib.hid hb
  have HAB := Lib.hid hab
  clear ha hb hab
  go_enter Try.func30, Try.ntmps30
  go_wp2_with fail
  go_loopw [6] (fun s wx => ∃ k : Nat, k ≤ ca ∧ s = .int .i64 (k : Int) ∧ Hid (MidI wx ga ca k (-7)) ∧ Hid (wx.heap[gb]? = w.heap[gb]? ∧ Below B w wx)) (fun s _ => ca - (intOf s).toNat)
  case atStart => exact ⟨0, Nat.zero_le _, rfl, HA.out _, rfl, Below.refl _ _⟩
  case round =>
    obtain ⟨k, hk, rfl, hm, ho⟩ := hrel
    by_cases hkc : k < ca
    · obtain ⟨u, hu⟩ := hm.out.cell hkc
      have hf := hm.out.free k
      have HM2 := Lib.hid (hm.out.step hkc)
      have HO2 : Hid ((wr.setCell ⟨ga, k, none⟩ (.int .i64 (-7))).heap[gb]? = w.heap[gb]? ∧ Below B w (wr.setCell ⟨ga, k, none⟩ (.int .i64 (-7)))) :=
        ⟨(Below.heap_setCell _ _ _ _ (fun e => HAB.out e.symm)).trans ho.out.1, ho.out.2.setCell hBa _⟩
      clear hm ho
      go_wp2_with fail
      go_roundw
      case rel => exact ⟨k + 1, by omega, by go_num, HM2, HO2⟩
      case measure => simp [intOf]; omega
    · obtain rfl : k = ca := by omega
      obtain ⟨w2, hw2⟩ : ∃ w2 : World, w2 = wr := ⟨_, rfl⟩
      have HM : Hid (MidI w2 ga k k (-7)) := by rw [hw2]; exact hm.out
      have HMB : Hid (∀ x, MidI w2 gb cb 0 x) := by rw [hw2]; exact fun x => (HB.out x).other ho.out.1
      have HBL : Hid (Below B w w2) := by rw [hw2]; exact ho.out.2
      rw [← hw2]
      clear hm ho hw2
      go_wp2_with fail
      go_loopw [8] (fun s wx => ∃ j : Nat, j ≤ cb ∧ s = .int .i64 (j : Int) ∧ Hid (MidI wx gb cb j 9) ∧ Hid (wx.heap[ga]? = w2.heap[ga]? ∧ Below B w wx)) (fun s _ => cb - (intOf s).toNat)
      case atStart => exact ⟨0, Nat.zero_le _, rfl, HMB.out _, rfl, HBL⟩
      case round =>
        obtain ⟨j, hj, rfl, hm, ho⟩ := hrel
        by_cases hjc : j < cb
        · obtain ⟨u, hu⟩ := hm.out.cell hjc
          have hf := hm.out.free j
          have HM2 := Lib.hid (hm.out.step hjc)
          have HO2 : Hid ((wr.setCell ⟨gb, j, none⟩ (.int .i64 9)).heap[ga]? = w2.heap[ga]? ∧ Below B w (wr.setCell ⟨gb, j, none⟩ (.int .i64 9))) :=
            ⟨(Below.heap_setCell _ _ _ _ HAB.out).trans ho.out.1, ho.out.2.setCell hBb _⟩
          clear hm ho
          go_wp2_with fail
          go_roundw
          case rel => exact ⟨j + 1, by omega, by go_num, HM2, HO2⟩
          case measure => simp [intOf]; omega
        · obtain rfl : j = cb := by omega
          have HC : Hid (∀ i, i < k → wr.cell? ⟨ga, i, none⟩ = some (.int .i64 (-7))) := fun i hi => (HM.out.other ho.out.1).at i hi
          have HBL2 := Lib.hid ho.out.2
          clear hm ho
          go_wp2_with fail
          go_loop [9] (fun s => ∃ i : Nat, i ≤ k ∧ s = .int .i64 (i : Int)) (fun s => k - (intOf s).toNat)
          case atStart => exact ⟨0, Nat.zero_le _, rfl⟩
          case round =>
            obtain ⟨i, hi, rfl⟩ := hrel
            by_cases hik : i < k
            · have hcl := HC.out i hik
              go_wp2_with fail
              go_round
              case rel => exact ⟨i + 1, by omega, by go_num⟩
              case measure => simp [intOf]; omega
            · obtain rfl : i = k := by omega
              go_wp2_with fail
              go_ret
              exact ⟨rfl, HBL2.out⟩

set_option maxHeartbeats 1600000 in
set_option maxRecDepth 20000 in
theorem owni_none (w : World) (B gb nb cb : Nat) (hb : ∀ x, MidI w gb cb 0 x) (hnb : nb ≤ cb) (hcb : cb ≤ 9223372036854775807) (hBb : B ≤ gb) :
    Calls Try.prog 30 #[.slice none 0 0, .slice (some ⟨gb, 0, none⟩) nb cb] w fun e w' => e = .returned (.bool true) ∧ Below B w w' := by
  have HB := Lib.hid hb
  clear hb
  go_enter Try.func30, Try.ntmps30
  go_wp2_with fail
  refine wp_loop_rounds 1 ?_
  rw [rounds_succ]
  go_wp2_with fail
  go_loopw [8] (fun s wx => ∃ j : Nat, j ≤ cb ∧ s = .int .i64 (j : Int) ∧ Hid (MidI wx gb cb j 9) ∧ Hid (Below B w wx)) (fun s _ => cb - (intOf s).toNat)
  case atStart => exact ⟨0, Nat.zero_le _, rfl, HB.out _, Below.refl _ _⟩
  case round =>
    obtain ⟨j, hj, rfl, hm, ho⟩ := hrel
    by_cases hjc : j < cb
    · obtain ⟨u, hu⟩ := hm.out.cell hjc
      have hf := hm.out.free j
      have HM2 := Lib.hid (hm.out.step hjc)
      have HO2 : Hid (Below B w (wr.setCell ⟨gb, j, none⟩ (.int .i64 9))) := ho.out.setCell hBb _
      clear hm ho
      go_wp2_with fail
      go_roundw
      case rel => exact ⟨j + 1, by omega, by go_num, HM2, HO2⟩
      case measure => simp [intOf]; omega
    · obtain rfl : j = cb := by omega
      clear hm
      go_wp2_with fail
      refine wp_loop_rounds 1 ?_
      rw [rounds_succ]
      go_wp2_with fail
      go_ret
      exact ⟨rfl, ho.out⟩

end Go.Proofs.Ytkjcdndlhjacfaa
