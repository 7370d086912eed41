/-
  eval.Names.
-/
import Derived.Test.YthgodhojhajahaaGreatDoorVaL
import Derived.Test.YthgodhojhajahaaGreatDoorVaX
namespace Go.Proofs.YthgodhojhajahaaGreatDoor
open Go.RowKit Go.Maps

/-- The names of a kind: rising, each once. -/
def nmsOf (kd : Int) (x : GX) : List (List UInt8) := nmP kd x []

theorem nmsOf_rising (kd : Int) (x : GX) : Rising (nmsOf kd x) := nmP_rising kd x [] List.Pairwise.nil
theorem mem_nmsOf (kd : Int) (x : GX) (t : List UInt8) : t ∈ nmsOf kd x ↔ t ∈ colP kd x := by
  unfold nmsOf
  rw [mem_nmP, mem_colP]
  simp

/-- Two sets and what holds them. -/
theorem use_new (w : World) : ∃ (W : World) (b1 b2 g : Nat), W = ((w.alloc (.map #[] 0)).alloc (.map #[] 0)).alloc (.cells #[.map (some b1), .map (some b2)] 57) ∧ b1 = w.heap.size ∧ b2 = w.heap.size + 1 ∧ g = w.heap.size + 1 + 1 ∧
    Hid (SetAt W b1 []) ∧ Hid (SetAt W b2 []) ∧ Hid (UsB W g b1 b2) ∧ Hid (Below w.heap.size w W) := by
  have h1 : (w.alloc (.map #[] 0)).heap.size = w.heap.size + 1 := by simp
  have h2 : ((w.alloc (.map #[] 0)).alloc (.map #[] 0)).heap.size = w.heap.size + 1 + 1 := by simp
  have hb := ((Below.refl w.heap.size w).alloc (Nat.le_refl _) (.map #[] 0)).alloc (by omega) (.map #[] 0)
  refine ⟨_, _, _, _, rfl, rfl, rfl, rfl, ((SetAt.new w).alloc _).alloc _, ?_, ?_, hb.alloc (by omega) _⟩
  · have := (SetAt.new (w.alloc (.map #[] 0))).alloc (.cells #[.map (some w.heap.size), .map (some (w.heap.size + 1))] 57)
    rw [h1] at this
    exact this
  · have := heap_alloc_new ((w.alloc (.map #[] 0)).alloc (.map #[] 0)) (.cells #[.map (some w.heap.size), .map (some (w.heap.size + 1))] 57)
    rw [h2] at this
    exact this

/-- The names of either set. -/
def nmAt (b1 b : Nat) (x : GX) : List ByteArray := if b = b1 then mkS (nmsOf 2 x) else mkS (nmsOf 3 x)

theorem hbel_refl (u : World) : Hid (Below u.heap.size u u) := Below.refl _ u
theorem hbel_drew {u W : World} (h : Hid (Below u.heap.size u W)) : Hid (Below u.heap.size u W.drew) := h.out.drew
theorem hbel_trans {u V W : World} (h : Hid (Below u.heap.size u V)) (h2 : Hid (Below V.heap.size V W)) : Hid (Below u.heap.size u W) := h.out.trans (h2.out.mono h.out.size)

theorem StRow.base_le {w : World} {B B' : Nat} {v : Value} {xs : List ByteArray} (h : StRow w B v xs) (hb : B' ≤ B) : StRow w B' v xs := by
  refine ⟨h.1, ?_⟩
  rcases h.2 with h2 | ⟨g, cap, cur, a1, a2, a3⟩
  · exact .inl h2
  · exact .inr ⟨g, cap, cur, a1, Nat.le_trans hb a2, a3⟩

set_option maxHeartbeats 1600000 in
set_option maxRecDepth 20000 in
theorem names_any (x : GX) (w : World) (v : EV) (hx : GV w 0 w.heap.size x v) (hr : x.rng) (hn2 : (colP 2 x).length ≤ 1048576) (hn3 : (colP 3 x).length ≤ 1048576) :
    Calls Tryz.prog 15 #[v.val] w fun e w' => ∃ v1 v2, e = .returned (.tuple #[v1, v2]) ∧ StRow w' w.heap.size v1 (mkS (nmsOf 2 x)) ∧ StRow w' w.heap.size v2 (mkS (nmsOf 3 x)) ∧ (∀ k, v1.ownBlock = some k → v2.ownBlock ≠ some k) ∧ Below w.heap.size w w' := by
  obtain ⟨W0, g0, hW0, hg0, HX, HB0⟩ := box_new w v
  obtain ⟨W1, b1, b2, g1, hW1, hb1, hb2, hg1, HM1, HM2, HU, HB1⟩ := use_new W0
  have hsz := HB0.out.size
  have hxl := HX.out.lt
  have HX1 := Lib.hid (HX.out.below HB1.out)
  have HB2 := Lib.hid (HB0.out.trans (HB1.out.mono HB0.out.size))
  have HC := Lib.hid (collect_any x hr W1 w.heap.size b1 b2 [] [] v (GV.below hx HB2.out (Nat.le_refl _)) HB2.out.size (by omega) (by omega) (by omega) HM1.out HM2.out (by unfold maxLen; simp only [List.length_nil]; omega) (by unfold maxLen; simp only [List.length_nil]; omega))
  have HG := Lib.hid (show g1 ≠ b1 ∧ g1 ≠ b2 ∧ w.heap.size ≤ b1 ∧ w.heap.size ≤ b2 ∧ b2 ≠ b1 by omega)
  have HN2 := Lib.hid hn2
  have HN3 := Lib.hid hn3
  have HR2 := Lib.hid (colP_rng 2 x hr)
  have HR3 := Lib.hid (colP_rng 3 x hr)
  have hmm := @run_makeMap Tryz.prog
  clear hx hr hn2 hn3 hsz hxl
  obtain ⟨k, num, S, op, A, len, cap, p⟩ := v
  simp only [EV.val] at hW0 HC ⊢
  have z0 := HX1.out.c0
  have z1 := HX1.out.c1
  have z2 := HX1.out.c2
  have z3 := HX1.out.c3
  have z4 := HX1.out.c4
  have z5 := HX1.out.c5
  have y0 := HU.out.c0
  have y1 := HU.out.c1
  simp only at z0 z1 z2 z3 z4 z5
  go_enter Tryz.func15, Tryz.ntmps15
  go_upto_region 1 with fail
  rw [← hW0, ← hg0]
  clear hW0 hg0
  go_upto_region 2 with fail
  rw [hb1, hb2] at hW1
  rw [← hW1, ← hg1]
  clear hW1 hg1 hb1 hb2 hmm
  go_wp2_with fail
  refine HC.out.mono ?_
  rintro e w2 ⟨rfl, q1, q2, q3⟩
  have hu := HU.out.kp q3 HG.out.1 HG.out.2.1
  have HU2 := Lib.hid hu
  have HBW := Lib.hid (HB2.out.trans (q3.toBelow HB2.out.size HG.out.2.2.1 HG.out.2.2.2.1))
  rw [List.nil_append] at q1 q2
  have HQ1 := Lib.hid q1
  have HQ2 := Lib.hid q2
  clear q1 q2 q3 hu z0 z1 z2 z3 z4 z5 y0 y1 HC HX HX1 HU HM1 HM2 HB1
  have HL : Hid (∀ W b, Hid (Below w2.heap.size w2 W) → (b = b1 ∨ b = b2) → Calls Tryz.prog 24 #[.map (some b)] W fun e w' => ∃ v, e = .returned v ∧ (w'.cell? ⟨g1, 0, none⟩ = some (.map (some b1)) ∧ w'.cell? ⟨g1, 1, none⟩ = some (.map (some b2))) ∧ Hid (StRow w' W.heap.size v (nmAt b1 b x)) ∧ Hid (Below W.heap.size W w') ∧ Hid (Below w2.heap.size w2 w')) := fun W b hb hw => by
    have h16 : 1048576 * 16 ≤ 140737488355328 := by omega
    have h : Calls Tryz.prog 24 #[.map (some b)] W fun e w' => ∃ v, e = .returned v ∧ StRow w' W.heap.size v (nmAt b1 b x) ∧ Below W.heap.size W w' := by
      unfold nmAt
      by_cases c : b = b1
      · subst c
        rw [if_pos rfl]
        exact list_any W b _ _ (HQ1.out.below hb.out) (nmsOf_rising 2 x) (mem_nmsOf 2 x) (Nat.le_trans (Nat.mul_le_mul_right 16 HN2.out) h16) HR2.out
      · obtain rfl : b = b2 := by
          rcases hw with h | h
          · exact absurd h c
          · exact h
        rw [if_neg c]
        exact list_any W b _ _ (HQ2.out.below hb.out) (nmsOf_rising 3 x) (mem_nmsOf 3 x) (Nat.le_trans (Nat.mul_le_mul_right 16 HN3.out) h16) HR3.out
    refine h.mono ?_
    rintro e w' ⟨v, rfl, h1, h2⟩
    have h3 := hbel_trans hb h2
    exact ⟨v, rfl, ⟨(HU2.out.below h3.out).c0, (HU2.out.below h3.out).c1⟩, h1, h2, h3⟩
  have HB20 := hbel_refl w2
  have y0 := HU2.out.c0
  have y1 := HU2.out.c1
  have HE1 : Hid (nmAt b1 b1 x = mkS (nmsOf 2 x)) := if_pos rfl
  have HE2 : Hid (nmAt b1 b2 x = mkS (nmsOf 3 x)) := if_neg HG.out.2.2.2.2
  go_upto_region 3 with fail
  go_region_held3 (fun W => W.cell? ⟨g1, 0, none⟩ = some (.map (some b1)) ∧ W.cell? ⟨g1, 1, none⟩ = some (.map (some b2))) (go_keep) (first | (go_at_call 24; refine (HL.out _ _ (by with_reducible exact hbel_drew HB20) (by first | exact .inl rfl | exact .inr rfl)).mono ?_; rintro r wa ⟨va, rfl, ⟨a0, a1⟩, HSTa, Hba, HBa⟩) | (go_at_call 24; refine (HL.out _ _ (by with_reducible exact HBa) (by first | exact .inl rfl | exact .inr rfl)).mono ?_; rintro r wb ⟨vb, rfl, ⟨c0, c1⟩, HSTb, Hbb, HBb⟩))
  all_goals
    have HFA := Lib.hid (HSTa.out.below Hbb.out)
    have HFB := Lib.hid HSTb.out
    have HBF := Lib.hid (HBW.out.trans (HBb.out.mono HBW.out.size))
    have HBS := Lib.hid (HBW.out.size)
    have HBT := Lib.hid (Nat.le_trans HBW.out.size HBa.out.size)
    have HD1 : Hid (∀ k, va.ownBlock = some k → vb.ownBlock ≠ some k) := fun k h1 h2 => by
      have e1 := (World.ownsRow.lt HSTa.out k h1).2
      have e2 := (World.ownsRow.lt HSTb.out k h2).1
      omega
    clear a0 a1 c0 c1 y0 y1 HSTa HSTb Hba Hbb HBa HBb HL HB20
    go_wp2_with fail
    go_ret2
  · exact ⟨_, _, rfl, by rw [← HE1.out]; exact HFA.out.base_le HBS.out, by rw [← HE2.out]; exact HFB.out.base_le HBT.out, HD1.out, HBF.out⟩

end Go.Proofs.YthgodhojhajahaaGreatDoor
