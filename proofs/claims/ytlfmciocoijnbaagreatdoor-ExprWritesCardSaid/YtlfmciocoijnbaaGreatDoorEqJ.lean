/-
  The document's Text: its walk.
-/
import Derived.Test.YtlfmciocoijnbaaGreatDoorEqI
import Derived.Test.YtlfmciocoijnbaaGreatDoorEvWraps
namespace Go.Proofs.YtlfmciocoijnbaaGreatDoor
open Go.RowKit

set_option maxHeartbeats 3200000 in
set_option maxRecDepth 20000 in
theorem rtextx_any (w : World) (x : GX) (v : EV) (hr : x.rng) (hg : GV w 0 w.heap.size x v) :
    Calls Tryz.prog 17 #[v.val] w fun e w' => e = .returned (.tuple #[.string ⟨x.txt.toArray⟩, .bool x.right.isSome]) ∧ Below w.heap.size w w' := by
  obtain ⟨W0, hW0⟩ : ∃ W0, W0 = w.alloc (.cells #[.int .i64 v.kind, .int .i64 v.num, .string v.name, .int .i64 v.op, .slice v.A v.len v.cap, .int .i64 v.p] 26) := ⟨_, rfl⟩
  obtain ⟨g0, hg0⟩ : ∃ g0, g0 = w.heap.size := ⟨_, rfl⟩
  have HB0 : Hid (Below w.heap.size w W0) := by rw [hW0]; exact (Below.refl _ w).alloc (Nat.le_refl _) _
  have HX0 : Hid (XpB W0 g0 v) := by rw [hW0, hg0]; exact XpB.new w v
  have HGV := Lib.hid (fun (W : World) (hb : Below w.heap.size w W) => ((hg.below hb (Nat.le_refl _)).mono (Nat.le_refl 0) hb.size : GV W 0 W.heap.size x v))
  have HG := Lib.hid hg
  have HS := Lib.hid (eshape_all _ x (Nat.le_refl _) hr W0 v (HGV.out W0 HB0.out))
  have HR := Lib.hid hr
  have hvv : v.val = .agg #[.int .i64 v.kind, .int .i64 v.num, .string v.name, .int .i64 v.op, .slice v.A v.len v.cap, .int .i64 v.p] := rfl
  rw [hvv] at HS ⊢
  have HVV := Lib.hid hvv
  have z0 := HX0.out.c0
  have z1 := HX0.out.c1
  have z2 := HX0.out.c2
  have z3 := HX0.out.c3
  have z4 := HX0.out.c4
  have z5 := HX0.out.c5
  clear hr hg hvv
  cases hx : x.ex with
  | none =>
    have hrt : x.right = none := by unfold GX.right; rw [hx]
    have HRT := Lib.hid hrt
    rw [hx] at HS
    clear hx hrt
    go_enter Tryz.func17, Tryz.ntmps17
    go_upto_region 1 with fail
    rw [← hW0, ← hg0]
    clear hW0 hg0
    go_wp2_with fail
    refine HS.out.mono ?_
    rintro e w1 ⟨rfl, hb⟩
    have HB1 := Lib.hid (HB0.out.trans (hb.mono HB0.out.size))
    clear hb HS
    go_wp2_with fail
    go_ret2
    exact ⟨by rw [GX.txt_none HRT.out, HRT.out]; rfl, HB1.out⟩
  | some e =>
    obtain ⟨hfi, her, hxe⟩ := ex_some x e hx
    rw [hx] at HS
    have HFI := Lib.hid hfi
    have HER := Lib.hid her
    have HXE := Lib.hid hxe
    have HX := Lib.hid hx
    clear hx hfi her hxe
    go_enter Tryz.func17, Tryz.ntmps17
    go_upto_region 1 with fail
    rw [← hW0, ← hg0]
    clear hW0 hg0
    go_wp2_with fail
    refine HS.out.mono ?_
    rintro er w1 ⟨rfl, hb⟩
    have HB1 := Lib.hid (HB0.out.trans (hb.mono HB0.out.size))
    have HX1 := Lib.hid (HX0.out.below hb)
    clear hb HS HX0 HB0 z0 z1 z2 z3 z4 z5
    obtain ⟨b, hbb⟩ : ∃ b, b = w1.heap.size := ⟨_, rfl⟩
    obtain ⟨W2, hW2⟩ : ∃ W2, W2 = w1.alloc (.cells #[.slice none 0 0] 69) := ⟨_, rfl⟩
    have hb2 : Below w1.heap.size w1 W2 := by rw [hW2]; exact (Below.refl _ w1).alloc (Nat.le_refl _) _
    have HB2 := Lib.hid (HB1.out.trans (hb2.mono HB1.out.size))
    have HX2 := Lib.hid (HX1.out.below hb2)
    have HPB : Hid (PB W2 w.heap.size b []) := by rw [hW2, hbb]; exact PB.new HB1.out.size
    have hg0b : g0 ≠ b := by have := HX1.out.lt; omega
    have HNE := Lib.hid hg0b
    have HC := Lib.hid (pexpr_all w b _ x (Nat.le_refl _) HR.out W2 v [] e HX.out HG.out HB2.out HPB.out (Nat.zero_le _))
    rw [HVV.out] at HC
    have z0 := HX2.out.c0
    have z1 := HX2.out.c1
    have z2 := HX2.out.c2
    have z3 := HX2.out.c3
    have z4 := HX2.out.c4
    have z5 := HX2.out.c5
    clear hb2 HX1 HPB hg0b
    go_upto_region 5 with fail
    rw [← hW2, ← hbb]
    clear hW2 hbb
    go_wp2_with fail
    refine HC.out.mono ?_
    rintro er w3 ⟨rfl, ⟨l, hpb, hpg⟩, hk⟩
    have HB3 := Lib.hid (HB2.out.trans hk.below)
    have HX3 := Lib.hid (HX2.out.wk hk HNE.out)
    have hl0 : l ≠ [] := by
      obtain ⟨a, r, hh, _⟩ := tx_Hd e HFI.out
      rcases hpg with ⟨_, h⟩ | ⟨_, h, _⟩
      · rw [h, hh]; simp
      · intro h2; rw [h2] at h; simp at h
    obtain ⟨ao, cap, p0, pc⟩ := page_string hpb hl0
    have HPG := Lib.hid hpg
    obtain ⟨T, hT⟩ : ∃ T : ByteArray, T = ⟨l.toArray⟩ := ⟨_, rfl⟩
    have HTL : Hid (T.data.toList = l) := by rw [hT]; rfl
    rw [← hT] at pc
    obtain ⟨⟨R, c, p⟩, hR⟩ : ∃ R, rdR T.data.toList = R := ⟨_, rfl⟩
    have HRR := Lib.hid hR
    have hlT : T.size = l.length := by rw [← HTL.out]; rfl
    have HLT := Lib.hid hlT
    have HRD := Lib.hid (rread_any w3 T _ HRR.out)
    simp only [ftV] at HRD
    clear hpb hpg hk HC z0 z1 z2 z3 z4 z5 HX2 hl0 hT hR hlT
    go_wp2_with fail
    refine HRD.out.mono ?_
    rintro er w4 ⟨u, rfl, hv, hb⟩
    obtain ⟨W5, g3, g4, hW, hg3, hg4, HX5, HF5, HB5⟩ := pair_new w4 u c p
    have HBB5 : Hid (Below w.heap.size w W5) := (HB3.out.trans (hb.mono HB3.out.size)).trans (HB5.out.mono (by have := HB3.out.size; have := hb.size; omega))
    have HXX5 := Lib.hid ((HX3.out.below hb).below HB5.out)
    have HGY5 : Hid (GV W5 0 W5.heap.size (gxO R) u) := (hv.below HB5.out).gv
    clear hv hb HRD HX3 HB5 pc p0
    obtain ⟨B, hB⟩ : ∃ B, sm false x (gxO R) = B := ⟨_, rfl⟩
    have HBE := Lib.hid hB
    have HSM := Lib.hid (esame_any W5 x (gxO R) v u false (HGV.out W5 HBB5.out) HGY5.out)
    rw [hB, HVV.out] at HSM
    have huu : u.val = .agg #[.int .i64 u.kind, .int .i64 u.num, .string u.name, .int .i64 u.op, .slice u.A u.len u.cap, .int .i64 u.p] := rfl
    rw [huu] at HSM ⊢
    clear hB
    go_upto_region 8 with fail
    rw [← hW, ← hg4, ← hg3]
    clear hW hg3 hg4 huu
    have a0 := HXX5.out.c0
    have a1 := HXX5.out.c1
    have a2 := HXX5.out.c2
    have a3 := HXX5.out.c3
    have a4 := HXX5.out.c4
    have a5 := HXX5.out.c5
    have b0 := HX5.out.c0
    have b1 := HX5.out.c1
    have b2 := HX5.out.c2
    have b3 := HX5.out.c3
    have b4 := HX5.out.c4
    have b5 := HX5.out.c5
    go_wp2_with fail
    refine HSM.out.mono ?_
    rintro er w6 ⟨rfl, hb⟩
    have HB6 := Lib.hid (HBB5.out.trans (hb.mono HBB5.out.size))
    have HF6 := Lib.hid (HF5.out.below hb)
    clear hb HSM a0 a1 a2 a3 a4 a5 b0 b1 b2 b3 b4 b5 HF5 HX5 HXX5
    have k0 := HF6.out.c0
    rcases HPG.out with ⟨q1, q2⟩ | ⟨q1, q2, q3⟩
    · have hTx : T.data.toList = e.tx := by rw [HTL.out, q2]; rfl
      have hle : e.tx.length ≤ 16384 := by simpa using q1
      have hs : ¬ (16384 : Int) < T.size := by
        have h1 : T.data.toList.length = T.size := rfl
        rw [hTx] at h1
        omega
      by_cases hn : e.nst ≤ 20
      · obtain ⟨y, hye, hy⟩ := (rd_tx HFI.out hle).1 hn
        rw [← hTx, HRR.out] at hy
        simp only [Prod.mk.injEq] at hy
        obtain ⟨rfl, rfl, rfl⟩ := hy
        obtain rfl : B = true := by rw [← HBE.out]; exact sm_back HXE.out HER.out hye
        have hrt : x.right = some e := by unfold GX.right; rw [HX.out]; exact if_pos ⟨hn, hle⟩
        have HRT := Lib.hid hrt
        have HTX : Hid (T = ⟨x.txt.toArray⟩) := by
          show T = _
          rw [GX.txt_some hrt, ← hTx]
        clear q1 q2 hTx hle hn hye hrt
        go_wp2_with fail
        go_ret2
        exact ⟨by rw [HRT.out, ← HTX.out]; rfl, HB6.out⟩
      · obtain ⟨pp, hy⟩ := (rd_tx HFI.out hle).2 (by omega)
        rw [← hTx, HRR.out] at hy
        simp only [Prod.mk.injEq] at hy
        obtain ⟨rfl, rfl, rfl⟩ := hy
        have hrt : x.right = none := by unfold GX.right; rw [HX.out]; exact if_neg (fun h => hn h.1)
        have HRT := Lib.hid hrt
        clear q1 q2 hTx hle hn hrt
        go_wp2_with fail
        go_ret2
        exact ⟨by rw [GX.txt_none HRT.out, HRT.out]; rfl, HB6.out⟩
    · have hs : (16384 : Int) < T.size := by have := HLT.out; omega
      have hrt : x.right = none := by
        unfold GX.right; rw [HX.out]
        exact if_neg (fun h => by have := h.2; simp at q1; omega)
      have HRT := Lib.hid hrt
      clear q1 q2 q3 hrt
      go_wp2_with fail
      go_ret2
      exact ⟨by rw [GX.txt_none HRT.out, HRT.out]; rfl, HB6.out⟩

end Go.Proofs.YtlfmciocoijnbaaGreatDoor
