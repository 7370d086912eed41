/-
  The law ExprWrites: its walk.
-/
import Derived.Test.YtlfmciocoijnbaaGreatDoorEqJ
import Derived.Test.YtlfmciocoijnbaaGreatDoorEvCp
namespace Go.Proofs.YtlfmciocoijnbaaGreatDoor
open Go.RowKit

set_option maxHeartbeats 3200000 in
set_option maxRecDepth 20000 in
theorem writes_law (x : GX) (v : EV) (w : World) (hg : GV w 0 w.heap.size x v) (hr : x.rng) (hft : x.fit) (hK : KwAt w) (hEr : ErrAt w) (hSg : SgAt w) (hPw : PowTab w) :
    Calls Tryz.prog 5 #[v.val] w fun e w' => e = .returned (.bool true) ∧ Below w.heap.size w w' := by
  have HEE : Hid (Ee w) := ⟨⟨hK, hEr⟩, hSg, hPw⟩
  obtain ⟨W0, hW0⟩ : ∃ W0, W0 = w.alloc (.cells #[.int .i64 v.kind, .int .i64 v.num, .string v.name, .int .i64 v.op, .slice v.A v.len v.cap, .int .i64 v.p] 26) := ⟨_, rfl⟩
  obtain ⟨g0, hg0⟩ : ∃ g0, g0 = w.heap.size := ⟨_, rfl⟩
  have HB0 : Hid (Below w.heap.size w W0) := by rw [hW0]; exact (Below.refl _ w).alloc (Nat.le_refl _) _
  have HX0 : Hid (XpB W0 g0 v) := by rw [hW0, hg0]; exact XpB.new w v
  have HGV := Lib.hid (fun (W : World) (hb : Below w.heap.size w W) => ((hg.below hb (Nat.le_refl _)).mono (Nat.le_refl 0) hb.size : GV W 0 W.heap.size x v))
  have HEW := Lib.hid (fun (W : World) (hb : Below w.heap.size w W) => HEE.out.below hb)
  have HR := Lib.hid hr
  have HF := Lib.hid hft
  have HS := Lib.hid (small_any W0 (HEW.out W0 HB0.out))
  have hvv : v.val = .agg #[.int .i64 v.kind, .int .i64 v.num, .string v.name, .int .i64 v.op, .slice v.A v.len v.cap, .int .i64 v.p] := rfl
  have HVV := Lib.hid hvv
  rw [hvv]
  clear hK hEr hSg hPw hg hr hft hvv
  go_enter Tryz.func5, Tryz.ntmps5
  go_upto_region 1 with fail
  rw [← hW0, ← hg0]
  clear hW0 hg0
  go_wp2_with fail
  refine HS.out.mono ?_
  rintro e w1 ⟨rfl, hb⟩
  have HB1 := Lib.hid (HB0.out.trans (hb.mono HB0.out.size))
  have HX1 := Lib.hid (HX0.out.below hb)
  clear hb HS HX0 HB0
  obtain ⟨gS, hgS⟩ : ∃ gS, gS = w1.heap.size := ⟨_, rfl⟩
  obtain ⟨W2, hW2⟩ : ∃ W2, W2 = w1.alloc (.cells #[.int .i64 v.kind, .int .i64 v.num, .string v.name, .int .i64 v.op, .slice v.A v.len v.cap, .int .i64 v.p] 26) := ⟨_, rfl⟩
  have hb2 : Below w1.heap.size w1 W2 := by rw [hW2]; exact (Below.refl _ w1).alloc (Nat.le_refl _) _
  have HB2 := Lib.hid (HB1.out.trans (hb2.mono HB1.out.size))
  have HX2 := Lib.hid (HX1.out.below hb2)
  have hnew : W2.heap[gS]? = some (.cells #[.int .i64 v.kind, .int .i64 v.num, .string v.name, .int .i64 v.op, .slice v.A v.len v.cap, .int .i64 v.p] 26 (0, 0)) := by rw [hW2, hgS]; exact heap_alloc_new w1 _
  have hrow : GRow W2 0 W2.heap.size [x] (some ⟨gS, 0, none⟩) 0 := GRow.of fun j y hy => by
    match j, hy with
    | 0, hy =>
      have e : x = y := by simpa using hy
      subst e
      exact ⟨gS, 0, v, rfl, Nat.zero_le _, heap_lt hnew, EvAt.of (i := 0) hnew (fun j u hu => by simpa [EV.cells] using hu), HGV.out W2 HB2.out⟩
    | j + 1, hy => simp at hy
  have HC := Lib.hid (copied_all _ [x] (Nat.le_refl _) (fits_of (fun y hy => by rw [List.mem_singleton.1 hy]; exact HF.out)) (by simp) W2 (some ⟨gS, 0, none⟩) 1 hrow (by simp))
  have e1 : [x].length = 1 := rfl
  rw [e1] at HC
  have z0 := HX1.out.c0
  have z1 := HX1.out.c1
  have z2 := HX1.out.c2
  have z3 := HX1.out.c3
  have z4 := HX1.out.c4
  have z5 := HX1.out.c5
  clear hb2 hnew hrow e1
  go_wp2_with fail
  rw [← hW2, ← hgS]
  clear hW2 hgS
  refine HC.out.mono ?_
  rintro e w3 ⟨A', c', rfl, h1c, hcm, hgr, hb⟩
  have HB3 := Lib.hid (HB2.out.trans (hb.mono HB2.out.size))
  have HX3 := Lib.hid (HX2.out.below hb)
  obtain ⟨go, o, u, rfl, _, hgo, hev, hgu⟩ := hgr.get 0 x rfl
  have eo : o + (0 + 0) * 6 = o := by omega
  rw [eo] at hev
  have HEV := Lib.hid (fun (W : World) (hb : Below w3.heap.size w3 W) => hev.same (hb.block go hgo))
  have HGU := Lib.hid (fun (W : World) (hb : Below w3.heap.size w3 W) => ((hgu.below hb (Nat.le_refl _)).mono (Nat.zero_le _) hb.size : GV W 0 W.heap.size x u))
  clear hb HC HX1 HX2 HB1 HB2 hgr hgo hev hgu eo z0 z1 z2 z3 z4 z5 hcm
  have HT := Lib.hid (etext_any w3 x v (HEW.out w3 HB3.out).wv HR.out (HGV.out w3 HB3.out))
  rw [HVV.out] at HT
  obtain ⟨T, hT⟩ : ∃ T : ByteArray, (⟨x.txt.toArray⟩ : ByteArray) = T := ⟨_, rfl⟩
  have HTT := Lib.hid hT
  rw [hT] at HT
  have z0 := HX3.out.c0
  have z1 := HX3.out.c1
  have z2 := HX3.out.c2
  have z3 := HX3.out.c3
  have z4 := HX3.out.c4
  have z5 := HX3.out.c5
  clear hT
  go_wp2_with fail
  refine HT.out.mono ?_
  rintro e w4 ⟨rfl, hb⟩
  have HBa : Hid (Below w3.heap.size w3 w4) := hb
  have HB4 := Lib.hid (HB3.out.trans (hb.mono HB3.out.size))
  have HX4 := Lib.hid (HX3.out.below hb)
  clear hb HT HX3 z0 z1 z2 z3 z4 z5
  have HRT := Lib.hid (eright_any w4 x v (HEW.out w4 HB4.out).wv HR.out (HGV.out w4 HB4.out))
  rw [HVV.out] at HRT
  obtain ⟨r, hr⟩ : ∃ r, x.right.isSome = r := ⟨_, rfl⟩
  have HRR := Lib.hid hr
  rw [hr] at HRT
  have z0 := HX4.out.c0
  have z1 := HX4.out.c1
  have z2 := HX4.out.c2
  have z3 := HX4.out.c3
  have z4 := HX4.out.c4
  have z5 := HX4.out.c5
  clear hr
  go_wp2_with fail
  refine HRT.out.mono ?_
  rintro e w5 ⟨rfl, hb⟩
  have HBb : Hid (Below w3.heap.size w3 w5) := HBa.out.trans (hb.mono HBa.out.size)
  have HB5 := Lib.hid (HB4.out.trans (hb.mono HB4.out.size))
  have HX5 := Lib.hid (HX4.out.below hb)
  clear hb HRT HX4 z0 z1 z2 z3 z4 z5 HBa HB4
  have HT := Lib.hid (rtextx_any w5 x v HR.out (HGV.out w5 HB5.out))
  rw [HVV.out, HTT.out, HRR.out] at HT
  have z0 := HX5.out.c0
  have z1 := HX5.out.c1
  have z2 := HX5.out.c2
  have z3 := HX5.out.c3
  have z4 := HX5.out.c4
  have z5 := HX5.out.c5
  go_wp2_with fail
  refine HT.out.mono ?_
  rintro e w6 ⟨rfl, hb⟩
  have HBc : Hid (Below w3.heap.size w3 w6) := HBb.out.trans (hb.mono HBb.out.size)
  have HB6 := Lib.hid (HB5.out.trans (hb.mono HB5.out.size))
  have HX6 := Lib.hid (HX5.out.below hb)
  clear hb HT HX5 z0 z1 z2 z3 z4 z5 HBb HB5
  have z0 := HX6.out.c0
  have z1 := HX6.out.c1
  have z2 := HX6.out.c2
  have z3 := HX6.out.c3
  have z4 := HX6.out.c4
  have z5 := HX6.out.c5
  obtain ⟨y0, y1, y2, y3, y4, y5⟩ := HEV.out w6 HBc.out
  go_wp2_with fail
  go_still_tail 4, (by kernel_rfl)
  change wpList _ _ _ _ _ (World.drew w6)
  obtain ⟨W7, hW7⟩ : ∃ W7, W7 = w6.drew := ⟨_, rfl⟩
  have HB7 : Hid (Below w.heap.size w W7) := by rw [hW7]; exact HB6.out.drew
  have HB7c : Hid (Below w3.heap.size w3 W7) := by rw [hW7]; exact HBc.out.drew
  have HSM := Lib.hid (esame_any W7 x x v u true (HGV.out W7 HB7.out) (HGU.out W7 HB7c.out))
  have huu : u.val = .agg #[.int .i64 u.kind, .int .i64 u.num, .string u.name, .int .i64 u.op, .slice u.A u.len u.cap, .int .i64 u.p] := rfl
  rw [(sm_true x x).2 rfl, HVV.out, huu] at HSM
  rw [← hW7]
  clear hW7 huu z0 z1 z2 z3 z4 z5 y0 y1 y2 y3 y4 y5
  go_wp2_with fail
  refine HSM.out.mono ?_
  rintro e w8 ⟨rfl, hb⟩
  have HB8 := Lib.hid (HB7.out.trans (hb.mono HB7.out.size))
  have q1 : (T.toList == T.toList) = true := beq_self_eq_true _
  have q2 : (r == r) = true := beq_self_eq_true _
  clear hb HSM
  go_wp2_with fail
  go_ret
  exact ⟨rfl, HB8.out⟩

end Go.Proofs.YtlfmciocoijnbaaGreatDoor
