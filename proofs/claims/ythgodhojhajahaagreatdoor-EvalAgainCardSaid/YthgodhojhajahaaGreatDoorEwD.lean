/-
  The writer of expressions: has a node a form that may be?
-/
import Derived.Test.YthgodhojhajahaaGreatDoorEwC
import Derived.Deep.CutRange
namespace Go.Proofs.YthgodhojhajahaaGreatDoor
open Go.RowKit

theorem ok1 (n : Int) (S : ByteArray) (o : Int) (m : Nat) : nodeOk 1 n S.data.toList o m = (((o == 0) && ((m : Int) == 0)) && (decide (0 ≤ n) && S.toList.isEmpty)) := by
  unfold nodeOk
  rw [if_pos rfl, ← Lib.toList_data]
  rcases hS : S.toList with _ | ⟨c, r⟩ <;> by_cases h1 : o = 0 <;> by_cases h2 : m = 0 <;> by_cases h3 : 0 ≤ n <;> simp [h1, h2, h3]
theorem ok2 (k n : Int) (S : ByteArray) (o : Int) (m : Nat) (hk : k = 2 ∨ k = 3) : nodeOk k n S.data.toList o m = (((o == 0) && ((m : Int) == 0)) && ((n == 0) && isNm S.data.toList)) := by
  unfold nodeOk
  rw [if_neg (by omega), if_pos hk]
  by_cases h1 : o = 0 <;> by_cases h2 : m = 0 <;> by_cases h3 : n = 0 <;> simp [h1, h2, h3]
theorem ok4 (n : Int) (S : ByteArray) (o : Int) (m : Nat) : nodeOk 4 n S.data.toList o m = (((n == 0) && S.toList.isEmpty) && (((o == 14) || (o == 15)) && ((m : Int) == 1))) := by
  unfold nodeOk
  rw [if_neg (by decide), if_neg (by decide), if_pos rfl, ← Lib.toList_data]
  have e : ((m : Int) == 1) = decide (m = 1) := by
    by_cases h : m = 1
    · simp [h]
    · rw [decide_eq_false h, beq_eq_false_iff_ne]; omega
  rw [e]
  rcases hS : S.toList with _ | ⟨c, r⟩ <;> by_cases h1 : n = 0 <;> by_cases h2 : o = 14 <;> by_cases h3 : o = 15 <;> simp [h1, h2, h3]
theorem ok5 (n : Int) (S : ByteArray) (o : Int) (m : Nat) : nodeOk 5 n S.data.toList o m = (((n == 0) && S.toList.isEmpty) && (!(((bnd o : Nat) : Int) == 0) && ((m : Int) == 2))) := by
  unfold nodeOk bnd
  rw [if_neg (by decide), if_neg (by decide), if_neg (by decide), if_pos rfl, ← Lib.toList_data]
  have e : ((m : Int) == 2) = decide (m = 2) := by
    by_cases h : m = 2
    · simp [h]
    · rw [decide_eq_false h, beq_eq_false_iff_ne]; omega
  have e2 : (!(((if rowOf o < 6 then rowOf o + 1 else 0 : Nat) : Int) == 0)) = decide (rowOf o < 6) := by
    by_cases h : rowOf o < 6
    · rw [if_pos h, decide_eq_true h]
      have : (((rowOf o + 1 : Nat) : Int) == 0) = false := beq_eq_false_iff_ne.2 (by omega)
      rw [this]
      rfl
    · rw [if_neg h, decide_eq_false h]
      rfl
  rw [e, e2]
  rcases hS : S.toList with _ | ⟨c, r⟩ <;> by_cases h1 : n = 0 <;> simp [h1]
theorem ok0 (k n : Int) (s : List UInt8) (o : Int) (m : Nat) (h1 : ¬ k = 1) (h2 : ¬ (k = 2 ∨ k = 3)) (h4 : ¬ k = 4) (h5 : ¬ k = 5) : nodeOk k n s o m = false := by
  unfold nodeOk
  rw [if_neg h1, if_neg h2, if_neg h4, if_neg h5]

set_option maxHeartbeats 4000000 in
set_option maxRecDepth 20000 in
theorem formed_any (w : World) (v : EV) (hs : v.name.size ≤ 140737488351232) (hK : KwAt w) :
    Calls Tryz.prog 44 #[v.val] w fun e w' => e = .returned (.bool (nodeOk v.kind v.num v.name.data.toList v.op v.len)) ∧ Below w.heap.size w w' := by
  obtain ⟨g1, hg1⟩ : ∃ g1, g1 = w.heap.size := ⟨_, rfl⟩
  obtain ⟨W0, hW0⟩ : ∃ W0, W0 = w.alloc (.cells #[.int .i64 v.kind, .int .i64 v.num, .string v.name, .int .i64 v.op, .slice v.A v.len v.cap, .int .i64 v.p] 24) := ⟨_, rfl⟩
  have HX : Hid (XpB W0 g1 v) := by rw [hW0, hg1]; exact XpB.new w v
  have HB0 : Hid (Below w.heap.size w W0) := by rw [hW0]; exact (Below.refl _ w).alloc (Nat.le_refl _) _
  obtain ⟨k, num, S, op, A, len, cap, p⟩ := v
  simp only at hs hW0
  show Calls _ _ #[.agg #[.int .i64 k, .int .i64 num, .string S, .int .i64 op, .slice A len cap, .int .i64 p]] _ _
  simp only
  have HNM := Lib.hid (name_any S W0 hs (hK.below HB0.out))
  have HBI := Lib.hid (binding_any op W0)
  have z0 := HX.out.c0
  have z1 := HX.out.c1
  have z2 := HX.out.c2
  have z3 := HX.out.c3
  have z4 := HX.out.c4
  simp only at z0 z1 z2 z3 z4
  obtain ⟨P, hP⟩ : ∃ P, ((num == 0) && S.toList.isEmpty) = P := ⟨_, rfl⟩
  obtain ⟨Q, hQ⟩ : ∃ Q, ((op == 0) && ((len : Int) == 0)) = Q := ⟨_, rfl⟩
  have HP := Lib.hid hP
  have HQ := Lib.hid hQ
  obtain ⟨R, hR⟩ : ∃ R, nodeOk k num S.data.toList op len = R := ⟨_, rfl⟩
  rw [hR]
  have HR := Lib.hid hR
  clear hs hK hP hQ hR
  go_enter Tryz.func44, Tryz.ntmps44
  go_upto_region 1 with fail
  rw [← hW0, ← hg1]
  clear hW0 hg1
  go_cut [3] from 5 to 12 (fun s3 wr => s3 = .bool P ∧ W0 = wr)
  case first =>
    cases h1 : (num == 0) <;> cases h2 : S.toList.isEmpty
    all_goals
      go_wp2_with fail
      go_meet
      exact ⟨by rw [← HP.out, h1, h2]; rfl, rfl⟩
  case rest =>
  obtain ⟨rfl, rfl⟩ := hcut
  go_upto_region 2 with fail
  go_cut [4] from 13 to 21 (fun s4 wr => s4 = .bool Q ∧ W0 = wr)
  case first =>
    cases h1 : (op == 0) <;> cases h2 : ((len : Int) == 0)
    all_goals
      go_wp2_with fail
      go_meet
      exact ⟨by rw [← HQ.out, h1, h2]; rfl, rfl⟩
  case rest =>
  obtain ⟨rfl, rfl⟩ := hcut
  by_cases k1 : k = 1
  · subst k1
    have HR1 := Lib.hid ((ok1 num S op len).symm.trans HR.out)
    rw [HQ.out] at HR1
    clear HR HNM HBI
    by_cases h3 : 0 ≤ num
    · rw [decide_eq_true h3] at HR1
      cases Q <;> cases h2 : S.toList.isEmpty
      all_goals
        rw [h2] at HR1
        obtain rfl := HR1.out
        go_wp2_with fail
        go_ret
        exact ⟨by first | rfl | simp, HB0.out⟩
    · rw [decide_eq_false h3] at HR1
      cases Q <;> cases h2 : S.toList.isEmpty
      all_goals
        rw [h2] at HR1
        obtain rfl := HR1.out
        go_wp2_with fail
        go_ret
        exact ⟨by first | rfl | simp, HB0.out⟩
  · by_cases k2 : k = 2 ∨ k = 3
    · have HR1 := Lib.hid ((ok2 k num S op len k2).symm.trans HR.out)
      rw [HQ.out] at HR1
      obtain ⟨c, hc⟩ : ∃ c, isNm S.data.toList = c := ⟨_, rfl⟩
      rw [hc] at HR1 HNM
      clear HR HBI hc
      rcases k2 with rfl | rfl
      all_goals
        cases Q <;> cases h2 : (num == 0)
        all_goals
          rw [h2] at HR1
          obtain rfl := HR1.out
          go_wp2_with (refine HNM.out.mono ?_; rintro e w1 ⟨rfl, rfl⟩)
          go_ret
          exact ⟨by first | rfl | simp, HB0.out⟩
    · have hk2 : ¬ k = 2 := fun h => k2 (.inl h)
      have hk3 : ¬ k = 3 := fun h => k2 (.inr h)
      have b1 : (k == 1) = false := beq_eq_false_iff_ne.2 k1
      have b2 : (k == 2) = false := beq_eq_false_iff_ne.2 hk2
      have b3 : (k == 3) = false := beq_eq_false_iff_ne.2 hk3
      by_cases k4 : k = 4
      · subst k4
        have HR1 := Lib.hid ((ok4 num S op len).symm.trans HR.out)
        rw [HP.out] at HR1
        clear HR HNM HBI b1 b2 b3 k1 k2 hk2 hk3
        cases P <;> cases h2 : (op == 14) <;> cases h3 : (op == 15) <;> cases h4 : ((len : Int) == 1)
        all_goals
          rw [h2, h3, h4] at HR1
          obtain rfl := HR1.out
          go_wp2_with fail
          go_ret
          exact ⟨by first | rfl | simp, HB0.out⟩
      · have b4 : (k == 4) = false := beq_eq_false_iff_ne.2 k4
        by_cases k5 : k = 5
        · subst k5
          have HR1 := Lib.hid ((ok5 num S op len).symm.trans HR.out)
          rw [HP.out] at HR1
          obtain ⟨z, hz⟩ : ∃ z : Int, ((bnd op : Nat) : Int) = z := ⟨_, rfl⟩
          rw [hz] at HR1 HBI
          clear HR HNM b1 b2 b3 b4 k1 k2 hk2 hk3 k4 hz
          cases P <;> cases h3 : (z == 0) <;> cases h4 : ((len : Int) == 2)
          all_goals
            have h5 : (z != 0) = !(z == 0) := rfl
            rw [h3] at h5
            simp only [Bool.not_true, Bool.not_false] at h5
            rw [h3, h4] at HR1
            obtain rfl := HR1.out
            go_wp2_with (refine HBI.out.mono ?_; rintro e w1 ⟨rfl, rfl⟩)
            go_ret
            exact ⟨by first | rfl | simp, HB0.out⟩
        · have b5 : (k == 5) = false := beq_eq_false_iff_ne.2 k5
          have HR1 := Lib.hid ((ok0 k num S.data.toList op len k1 k2 k4 k5).symm.trans HR.out)
          clear HR HNM HBI k1 k2 hk2 hk3 k4 k5
          obtain rfl := HR1.out
          go_wp2_with fail
          go_ret
          exact ⟨by first | rfl | simp, HB0.out⟩

end Go.Proofs.YthgodhojhajahaaGreatDoor
