/-
  eval.Eval and eval.True at any tree, in any environment.
-/
import Derived.Test.YthgodhojhajahaaGreatDoorVaF
namespace Go.Proofs.YthgodhojhajahaaGreatDoor
open Go.RowKit

/-- Boxes for a tree and an environment. -/
theorem two_boxes (w : World) (v : EV) (e : NV) : ∃ (W : World) (g1 g2 : Nat), W = (w.alloc (.cells #[.int .i64 v.kind, .int .i64 v.num, .string v.name, .int .i64 v.op, .slice v.A v.len v.cap, .int .i64 v.p] 24)).alloc (.cells #[.slice e.nA e.nL e.nC, .slice e.mA e.mL e.mC, .slice e.aA e.aL e.aC] 28) ∧
    g1 = w.heap.size ∧ g2 = w.heap.size + 1 ∧ Hid (XpB W g1 v) ∧ Hid (EnB 28 W g2 e) ∧ Hid (Below w.heap.size w W) := by
  have h1 : (w.alloc (.cells #[.int .i64 v.kind, .int .i64 v.num, .string v.name, .int .i64 v.op, .slice v.A v.len v.cap, .int .i64 v.p] 24)).heap.size = w.heap.size + 1 := by simp
  refine ⟨_, _, _, rfl, rfl, rfl, (XpB.new w v).alloc _, ?_, ((Below.refl _ w).alloc (Nat.le_refl _) _).alloc (by omega) _⟩
  rw [← h1]
  exact EnB.new _ _ e

/-- A box more, for the evaluator. -/
theorem eval_box (w : World) (e : NV) : ∃ (W : World) (g : Nat), W = w.alloc (.cells #[.slice e.nA e.nL e.nC, .slice e.mA e.mL e.mC, .slice e.aA e.aL e.aC] 50) ∧ g = w.heap.size ∧ Hid (EnB 50 W g e) ∧ Hid (Below w.heap.size w W) :=
  ⟨_, _, rfl, rfl, EnB.new _ w e, (Below.refl _ w).alloc (Nat.le_refl _) _⟩

set_option maxHeartbeats 800000 in
set_option maxRecDepth 20000 in
theorem eval_any (x : GX) (w : World) (v : EV) (e : NV) (xs zs : List ByteArray) (ns : List Int) (hN : NvIs w e xs zs ns) (hx : GV w 0 w.heap.size x v) :
    Calls Tryz.prog 10 #[v.val, e.val] w fun r w' => r = .returned (.tuple #[.int .i64 (evP (envP xs zs ns) x).1, .int .i64 (evP (envP xs zs ns) x).2]) ∧ Below w.heap.size w w' := by
  obtain ⟨W0, g1, g2, hW0, hg1, hg2, HX, HE, HB⟩ := two_boxes w v e
  obtain ⟨W1, g3, hW1, hg3, HV, HB1⟩ := eval_box W0 e
  have HBB := Lib.hid (HB.out.trans (HB1.out.mono HB.out.size))
  have HX1 := Lib.hid (HX.out.below HB1.out)
  have HC := Lib.hid (value_any x W1 g3 v e xs zs ns HV.out (hN.below HBB.out) ((GV.below hx HBB.out (Nat.le_refl _)).mono (Nat.le_refl _) HBB.out.size))
  clear hN hx
  obtain ⟨⟨N, E⟩, hNE⟩ : ∃ R, evP (envP xs zs ns) x = R := ⟨_, rfl⟩
  rw [hNE] at HC ⊢
  clear hNE
  have y0 := HE.out.c0
  have y1 := HE.out.c1
  have y2 := HE.out.c2
  obtain ⟨nA, nL, nC, mA, mL, mC, aA, aL, aC⟩ := e
  obtain ⟨k, num, S, op, A, len, cap, p⟩ := v
  simp only [EV.val, NV.val] at hW0 hW1 HC ⊢
  have z0 := HX1.out.c0
  have z1 := HX1.out.c1
  have z2 := HX1.out.c2
  have z3 := HX1.out.c3
  have z4 := HX1.out.c4
  have z5 := HX1.out.c5
  simp only at z0 z1 z2 z3 z4 z5 y0 y1 y2
  go_enter Tryz.func10, Tryz.ntmps10
  go_upto_region 1 with fail
  rw [← hW0, ← hg2, ← hg1]
  clear hW0 hg1 hg2
  go_upto_region 2 with fail
  rw [← hW1, ← hg3]
  clear hW1 hg3 y0 y1 y2
  go_wp2_with fail
  refine HC.out.mono ?_
  rintro e w2 ⟨rfl, hb⟩
  have HB2 := Lib.hid (HBB.out.trans (hb.mono HBB.out.size))
  clear hb HC
  go_wp2_with fail
  go_ret2
  exact ⟨rfl, HB2.out⟩

set_option maxHeartbeats 800000 in
set_option maxRecDepth 20000 in
theorem true_any (x : GX) (w : World) (v : EV) (e : NV) (xs zs : List ByteArray) (ns : List Int) (hN : NvIs w e xs zs ns) (hx : GV w 0 w.heap.size x v) :
    Calls Tryz.prog 11 #[v.val, e.val] w fun r w' => r = .returned (.tuple #[.bool ((evP (envP xs zs ns) x).1 != 0), .int .i64 (evP (envP xs zs ns) x).2]) ∧ Below w.heap.size w w' := by
  obtain ⟨W0, g1, g2, hW0, hg1, hg2, HX, HE, HB⟩ := two_boxes w v e
  have HC := Lib.hid (eval_any x W0 v e xs zs ns (hN.below HB.out) ((GV.below hx HB.out (Nat.le_refl _)).mono (Nat.le_refl _) HB.out.size))
  clear hN hx
  obtain ⟨⟨N, E⟩, hNE⟩ : ∃ R, evP (envP xs zs ns) x = R := ⟨_, rfl⟩
  rw [hNE] at HC ⊢
  clear hNE
  have y0 := HE.out.c0
  have y1 := HE.out.c1
  have y2 := HE.out.c2
  obtain ⟨nA, nL, nC, mA, mL, mC, aA, aL, aC⟩ := e
  obtain ⟨k, num, S, op, A, len, cap, p⟩ := v
  simp only [EV.val, NV.val] at hW0 HC ⊢
  have z0 := HX.out.c0
  have z1 := HX.out.c1
  have z2 := HX.out.c2
  have z3 := HX.out.c3
  have z4 := HX.out.c4
  have z5 := HX.out.c5
  simp only at z0 z1 z2 z3 z4 z5 y0 y1 y2
  go_enter Tryz.func11, Tryz.ntmps11
  go_upto_region 1 with fail
  rw [← hW0, ← hg2, ← hg1]
  clear hW0 hg1 hg2
  go_wp2_with fail
  refine HC.out.mono ?_
  rintro e w2 ⟨rfl, hb⟩
  have HB2 := Lib.hid (HB.out.trans (hb.mono HB.out.size))
  clear hb HC
  go_wp2_with fail
  go_ret2
  exact ⟨rfl, HB2.out⟩

end Go.Proofs.YthgodhojhajahaaGreatDoor
