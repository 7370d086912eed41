/-
  The law ExprReads: its walk.
-/
import Derived.Test.YtlfmciocoijnbaaGreatDoorEvWraps
import Derived.Test.YtlfmciocoijnbaaGreatDoorEqA
namespace Go.Proofs.YtlfmciocoijnbaaGreatDoor
open Go.RowKit

set_option maxHeartbeats 1600000 in
set_option maxRecDepth 20000 in
theorem reads_law (s : ByteArray) (w : World) (_hl : s.size ≤ maxLen) (_hs : s.size ≤ 140737488351232) (hK : KwAt w) (hEr : ErrAt w) (hSg : SgAt w) (hPw : PowTab w) :
    Calls Tryz.prog 4 #[.string s] w fun e w' => e = .returned (.bool true) ∧ Below w.heap.size w w' := by
  have HEE : Hid (Ee w) := ⟨⟨hK, hEr⟩, hSg, hPw⟩
  have HS := Lib.hid (small_any w HEE.out)
  clear hK hEr hSg hPw
  obtain ⟨⟨R, c, p⟩, hR⟩ : ∃ R, rdR s.data.toList = R := ⟨_, rfl⟩
  have HRR := Lib.hid hR
  clear hR
  go_enter Tryz.func4, Tryz.ntmps4
  go_wp2_with fail
  refine HS.out.mono ?_
  rintro e w1 ⟨rfl, hb⟩
  have HB1 := Lib.hid hb
  have HE1 := Lib.hid (HEE.out.below hb)
  clear hb HS
  have HRD := Lib.hid (read_any w1 s HE1.out.vr HE1.out.vs _ HRR.out)
  simp only [ftV] at HRD
  go_wp2_with fail
  refine HRD.out.mono ?_
  rintro e w2 ⟨v, rfl, hv, hb⟩
  obtain ⟨W, g1, g2, hW, hg1, hg2, HX, HF, HB⟩ := pair_new w2 v c p
  have HBB : Hid (Below w.heap.size w W) := (HB1.out.trans (hb.mono HB1.out.size)).trans (HB.out.mono (by have := HB1.out.size; have := hb.size; omega))
  have HG : Hid (GV W 0 W.heap.size (gxO R) v) := (hv.below HB.out).gv
  clear HRD HB hv hb
  have hvv : v.val = .agg #[.int .i64 v.kind, .int .i64 v.num, .string v.name, .int .i64 v.op, .slice v.A v.len v.cap, .int .i64 v.p] := rfl
  rw [hvv]
  go_upto_region 3 with fail
  rw [← hW, ← hg2, ← hg1]
  clear hW hg1 hg2
  have HRD := Lib.hid (rread_any W s _ HRR.out)
  simp only [ftV] at HRD
  go_wp2_with fail
  refine HRD.out.mono ?_
  rintro e w4 ⟨u, rfl, hv, hb⟩
  obtain ⟨W5, g3, g4, hW, hg3, hg4, HX5, HF5, HB5⟩ := pair_new w4 u c p
  have HBB5 : Hid (Below w.heap.size w W5) := (HBB.out.trans (hb.mono HBB.out.size)).trans (HB5.out.mono (by have := HBB.out.size; have := hb.size; omega))
  have HXX5 := Lib.hid ((HX.out.below hb).below HB5.out)
  have HFF5 := Lib.hid ((HF.out.below hb).below HB5.out)
  have HGX5 : Hid (GV W5 0 W5.heap.size (gxO R) v) := by
    have h1 := (HG.out.below hb (Nat.le_refl _)).mono (Nat.le_refl 0) hb.size
    exact (h1.below HB5.out (Nat.le_refl _)).mono (Nat.le_refl _) HB5.out.size
  have HGY5 : Hid (GV W5 0 W5.heap.size (gxO R) u) := (hv.below HB5.out).gv
  clear hv hb HRD HX HF HG HB5 HBB
  have huu : u.val = .agg #[.int .i64 u.kind, .int .i64 u.num, .string u.name, .int .i64 u.op, .slice u.A u.len u.cap, .int .i64 u.p] := rfl
  rw [huu]
  go_upto_region 4 with fail
  rw [← hW, ← hg4, ← hg3]
  clear hW hg3 hg4
  have HSM := Lib.hid (esame_any W5 (gxO R) (gxO R) v u true HGX5.out HGY5.out)
  rw [(sm_true (gxO R) (gxO R)).2 rfl, huu, hvv] at HSM
  clear huu hvv
  have a0 := HXX5.out.c0
  have a1 := HXX5.out.c1
  have a2 := HXX5.out.c2
  have a3 := HXX5.out.c3
  have a4 := HXX5.out.c4
  have a5 := HXX5.out.c5
  have b0 := HX5.out.c0
  have b1 := HX5.out.c1
  have b2 := HX5.out.c2
  have b3 := HX5.out.c3
  have b4 := HX5.out.c4
  have b5 := HX5.out.c5
  go_wp2_with fail
  refine HSM.out.mono ?_
  rintro e w6 ⟨rfl, hb⟩
  have HB6 := Lib.hid (HBB5.out.trans (hb.mono HBB5.out.size))
  have HF6 := Lib.hid (HF5.out.below hb)
  have HF7 := Lib.hid (HFF5.out.below hb)
  clear hb HSM a0 a1 a2 a3 a4 a5 b0 b1 b2 b3 b4 b5 HF5 HFF5 HX5 HXX5
  have s0 := HF6.out.c0
  have s1 := HF6.out.c1
  have s2 := HF7.out.c0
  have s3 := HF7.out.c1
  have z1 := heldF
  have z2 := guardF
  have q0 : (c == c) = true := beq_self_eq_true _
  have q1 : (p == p) = true := beq_self_eq_true _
  go_wp2_with fail
  go_ret
  exact ⟨rfl, HB6.out⟩

end Go.Proofs.YtlfmciocoijnbaaGreatDoor
