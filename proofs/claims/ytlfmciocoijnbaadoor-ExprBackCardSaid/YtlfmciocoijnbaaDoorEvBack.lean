/-
  The law ExprBack: its walk.
-/
import Derived.Test.YtlfmciocoijnbaaDoorEvForms
import Derived.Test.YtlfmciocoijnbaaDoorEvO
namespace Go.Proofs.YtlfmciocoijnbaaDoor
open Go.RowKit

theorem GX.txt_ne {x : GX} {e : Ex} (h : x.right = some e) : x.txt ≠ [] := by
  rw [GX.txt_some h]
  obtain ⟨a, r, hh, _⟩ := tx_Hd e (ex_some x e (GX.right_some h).1).1
  rw [hh]
  simp

theorem right_of {x : GX} {e : Ex} (h : x.right = some e) : e.fine ∧ e.nst ≤ 20 ∧ e.tx.length ≤ 16384 ∧ x.er = e.gx := by
  obtain ⟨h1, h2, h3⟩ := GX.right_some h
  obtain ⟨a, b, c⟩ := ex_some x e h1
  exact ⟨a, h2, h3, c⟩

theorem sm_back {x : GX} {e y : Ex} (hx : x.er = e.gx) (he : e.er = e) (h : y.er = e.er) : sm false x y.gx = true := by
  rw [sm_false, gx_er, hx, h, he]

set_option maxHeartbeats 1600000 in
set_option maxRecDepth 20000 in
theorem back_law (x : GX) (v : EV) (w : World) (hg : GV w 0 w.heap.size x v) (hr : x.rng) (_hf : x.fit) (hK : KwAt w) (hEr : ErrAt w) (hSg : SgAt w) (hPw : PowTab w) :
    Calls Tryd.prog 3 #[v.val] w fun e w' => e = .returned (.bool true) ∧ Below w.heap.size w w' := by
  have HEE : Hid (Ee w) := ⟨⟨hK, hEr⟩, hSg, hPw⟩
  obtain ⟨W0, hW0⟩ : ∃ W0, W0 = w.alloc (.cells #[.int .i64 v.kind, .int .i64 v.num, .string v.name, .int .i64 v.op, .slice v.A v.len v.cap, .int .i64 v.p] 24) := ⟨_, rfl⟩
  obtain ⟨g0, hg0⟩ : ∃ g0, g0 = w.heap.size := ⟨_, rfl⟩
  have HB0 : Hid (Below w.heap.size w W0) := by rw [hW0]; exact (Below.refl _ w).alloc (Nat.le_refl _) _
  have HX0 : Hid (XpB W0 g0 v) := by rw [hW0, hg0]; exact XpB.new w v
  have HGV := Lib.hid (fun (W : World) (hb : Below w.heap.size w W) => ((hg.below hb (Nat.le_refl _)).mono (Nat.le_refl 0) hb.size : GV W 0 W.heap.size x v))
  have HEW := Lib.hid (fun (W : World) (hb : Below w.heap.size w W) => HEE.out.below hb)
  have HR := Lib.hid hr
  have HS := Lib.hid (small_any W0 (HEW.out W0 HB0.out))
  clear hK hEr hSg hPw hg hr _hf
  have hvv : v.val = .agg #[.int .i64 v.kind, .int .i64 v.num, .string v.name, .int .i64 v.op, .slice v.A v.len v.cap, .int .i64 v.p] := rfl
  rw [hvv]
  go_enter Tryd.func3, Tryd.ntmps3
  go_upto_region 1 with fail
  rw [← hW0, ← hg0]
  clear hW0 hg0
  go_wp2_with fail
  refine HS.out.mono ?_
  rintro e w1 ⟨rfl, hb⟩
  have HB1 := Lib.hid (HB0.out.trans (hb.mono HB0.out.size))
  have HX1 := Lib.hid (HX0.out.below hb)
  clear hb HS HX0 HB0
  have HT := Lib.hid (etext_any w1 x v (HEW.out w1 HB1.out).wv HR.out (HGV.out w1 HB1.out))
  rw [hvv] at HT
  obtain ⟨T, hT⟩ : ∃ T : ByteArray, T = ⟨x.txt.toArray⟩ := ⟨_, rfl⟩
  have HTL : Hid (T.data.toList = x.txt) := by rw [hT]; rfl
  rw [← hT] at HT
  have z0 := HX1.out.c0
  have z1 := HX1.out.c1
  have z2 := HX1.out.c2
  have z3 := HX1.out.c3
  have z4 := HX1.out.c4
  have z5 := HX1.out.c5
  clear hT
  go_wp2_with fail
  refine HT.out.mono ?_
  rintro e w2 ⟨rfl, hb⟩
  have HB2 := Lib.hid (HB1.out.trans (hb.mono HB1.out.size))
  have HX2 := Lib.hid (HX1.out.below hb)
  clear hb HT HX1 z0 z1 z2 z3 z4 z5
  cases hx : x.right with
  | none =>
    have hTE : T.toList.isEmpty = true := by rw [Lib.toList_data, HTL.out, GX.txt_none hx]; rfl
    have HC := Lib.hid (eright_any w2 x v (HEW.out w2 HB2.out).wv HR.out (HGV.out w2 HB2.out))
    rw [hx, hvv] at HC
    have z0 := HX2.out.c0
    have z1 := HX2.out.c1
    have z2 := HX2.out.c2
    have z3 := HX2.out.c3
    have z4 := HX2.out.c4
    have z5 := HX2.out.c5
    clear hx
    go_wp2_with fail
    refine HC.out.mono ?_
    rintro e w3 ⟨rfl, hb⟩
    have HB3 := Lib.hid (HB2.out.trans (hb.mono HB2.out.size))
    clear hb HC z0 z1 z2 z3 z4 z5
    go_wp2_with fail
    go_ret
    exact ⟨rfl, HB3.out⟩
  | some e =>
    obtain ⟨hfi, hns, hle, her⟩ := right_of hx
    have hTN : T.toList.isEmpty = false := by
      rw [Lib.toList_data, HTL.out]
      have := GX.txt_ne hx
      cases h : x.txt with
      | nil => exact absurd h this
      | cons a r => rfl
    obtain ⟨y, hye, hy⟩ := (rd_tx hfi hle).1 hns
    rw [← GX.txt_some hx, ← HTL.out] at hy
    have HYR := Lib.hid hy
    have HSMX := Lib.hid (sm_back her (ex_some x e (GX.right_some hx).1).2.1 hye)
    have HRX : Hid (x.right.isSome = true) := by show _ = _; rw [hx]; rfl
    clear hx hfi hns hle her hy hye
    have HRD := Lib.hid (read_any w2 T (HEW.out w2 HB2.out).vr (HEW.out w2 HB2.out).vs _ HYR.out)
    simp only [ftV] at HRD
    go_wp2_with fail
    refine HRD.out.mono ?_
    rintro e w4 ⟨u, rfl, hv, hb⟩
    obtain ⟨W5, g3, g4, hW, hg3, hg4, HX5, HF5, HB5⟩ := pair_new w4 u 0 0
    have HBB5 : Hid (Below w.heap.size w W5) := (HB2.out.trans (hb.mono HB2.out.size)).trans (HB5.out.mono (by have := HB2.out.size; have := hb.size; omega))
    have HXX5 := Lib.hid ((HX2.out.below hb).below HB5.out)
    have HGY5 : Hid (GV W5 0 W5.heap.size y.gx u) := by
      have h1 : GV w4 w2.heap.size w4.heap.size y.gx u := hv
      exact (h1.below HB5.out (Nat.le_refl _)).mono (Nat.zero_le _) HB5.out.size
    clear hv hb HRD HX2 HB5
    have HSM := Lib.hid (esame_any W5 x y.gx v u false (HGV.out W5 HBB5.out) HGY5.out)
    rw [HSMX.out, hvv] at HSM
    have huu : u.val = .agg #[.int .i64 u.kind, .int .i64 u.num, .string u.name, .int .i64 u.op, .slice u.A u.len u.cap, .int .i64 u.p] := rfl
    rw [huu] at HSM ⊢
    go_upto_region 6 with fail
    rw [← hW, ← hg4, ← hg3]
    clear hW hg3 hg4 huu
    have a0 := HXX5.out.c0
    have a1 := HXX5.out.c1
    have a2 := HXX5.out.c2
    have a3 := HXX5.out.c3
    have a4 := HXX5.out.c4
    have a5 := HXX5.out.c5
    have b0 := HX5.out.c0
    have b1 := HX5.out.c1
    have b2 := HX5.out.c2
    have b3 := HX5.out.c3
    have b4 := HX5.out.c4
    have b5 := HX5.out.c5
    go_wp2_with fail
    refine HSM.out.mono ?_
    rintro e w6 ⟨rfl, hb⟩
    have HB6 := Lib.hid (HBB5.out.trans (hb.mono HBB5.out.size))
    have HX6 := Lib.hid (HXX5.out.below hb)
    have HF6 := Lib.hid (HF5.out.below hb)
    clear hb HSM a0 a1 a2 a3 a4 a5 b0 b1 b2 b3 b4 b5 HX5 HF5 HXX5
    have HC := Lib.hid (eright_any w6 x v (HEW.out w6 HB6.out).wv HR.out (HGV.out w6 HB6.out))
    rw [HRX.out, hvv] at HC
    have k0 := HF6.out.c0
    have b0 := HX6.out.c0
    have b1 := HX6.out.c1
    have b2 := HX6.out.c2
    have b3 := HX6.out.c3
    have b4 := HX6.out.c4
    have b5 := HX6.out.c5
    go_wp2_with fail
    refine HC.out.mono ?_
    rintro e w7 ⟨rfl, hb⟩
    have HB7 := Lib.hid (HB6.out.trans (hb.mono HB6.out.size))
    clear hb HC b0 b1 b2 b3 b4 b5
    go_wp2_with fail
    go_ret
    exact ⟨rfl, HB7.out⟩

end Go.Proofs.YtlfmciocoijnbaaDoor
