/-
  The law EvalAgain: its walk.
-/
import Derived.Test.YthgodhojhajahaaGreatDoorVaU
import Derived.Test.YthgodhojhajahaaGreatDoorVaI
import Derived.Test.YthgodhojhajahaaGreatDoorEwI
import Derived.Test.YthgodhojhajahaaGreatDoorEpLaid
namespace Go.Proofs.YthgodhojhajahaaGreatDoor
open Go.RowKit

theorem again_pure (x : GX) (h : x.txt ≠ []) : ∃ e' : Ex, rdR x.txt = (some e', 0, 0) ∧ ∀ env : EnvP, evP env e'.gx = evP env x := by
  have hr : ∃ e, x.right = some e := by
    cases hr : x.right with
    | some e => exact ⟨e, rfl⟩
    | none => exact absurd (by unfold GX.txt; rw [hr]) h
  obtain ⟨e, hr⟩ := hr
  have ht : x.txt = e.tx := GX.txt_some hr
  have hx : x.ex = some e ∧ e.nst ≤ 20 ∧ e.tx.length ≤ 16384 := by
    unfold GX.right at hr
    split at hr
    · rename_i e0 h0
      split at hr
      · rename_i c
        injection hr with hr
        subst hr
        exact ⟨h0, c.1, c.2⟩
      · cases hr
    · cases hr
  obtain ⟨hex, hn, hl⟩ := hx
  obtain ⟨hf, he, hxe⟩ := ex_some x e hex
  obtain ⟨e', h1, h2⟩ := (rd_tx hf hl).1 hn
  refine ⟨e', by rw [ht]; exact h2, fun env => ?_⟩
  rw [← evP_er env e'.gx, gx_er, h1, he, ← hxe, evP_er]

set_option maxHeartbeats 1600000 in
set_option maxRecDepth 20000 in
theorem again_law (x : GX) (v : EV) (e : NV) (xs zs : List ByteArray) (ns : List Int) (w : World) (hg : GV w 0 w.heap.size x v) (hr : x.rng) (_hf : x.fit) (hN : NvIs w e xs zs ns) (_hR : ∀ n ∈ ns, inR n) (_hF : NvFit e xs zs) (hK : KwAt w) (hEr : ErrAt w) (hSg : SgAt w) (hPw : PowTab w) :
    Calls Tryz.prog 6 #[v.val, e.val] w fun e w' => e = .returned (.bool true) ∧ Below w.heap.size w w' := by
  obtain ⟨W0, g1, g2, hW0, hg1, hg2, HX, HE, HB⟩ := two_boxes w v e
  have HEE : Hid (E6 W0) := (E6.mk ⟨hK, hEr⟩ ⟨hK, hSg⟩).below HB.out
  have HWV : Hid (∀ W, Below w.heap.size w W → Wv W) := fun W hb => ((Wv.mk hK hSg hPw).below hb)
  have HS := Lib.hid (small6_any W0 HEE.out)
  have HGV := Lib.hid (fun (W : World) (hb : Below w.heap.size w W) => (GV.below hg hb (Nat.le_refl _)).mono (Nat.le_refl 0) hb.size)
  have HNV := Lib.hid (fun (W : World) (hb : Below w.heap.size w W) => hN.below hb)
  have HR := Lib.hid hr
  have HVV : Hid (v.val = .agg #[.int .i64 v.kind, .int .i64 v.num, .string v.name, .int .i64 v.op, .slice v.A v.len v.cap, .int .i64 v.p]) := rfl
  have HVE : Hid (e.val = .agg #[.slice e.nA e.nL e.nC, .slice e.mA e.mL e.mC, .slice e.aA e.aL e.aC]) := rfl
  rw [HVV.out, HVE.out]
  clear hg hr hN hK hEr hSg hPw _hf _hR _hF
  go_enter Tryz.func6, Tryz.ntmps6
  go_upto_region 1 with fail
  rw [← hW0, ← hg2, ← hg1]
  clear hW0 hg1 hg2
  go_wp2_with fail
  refine HS.out.mono ?_
  rintro r w1 ⟨rfl, hb⟩
  have HB1 := Lib.hid (HB.out.trans (hb.mono HB.out.size))
  have HX1 := Lib.hid (HX.out.below hb)
  have HE1 := Lib.hid (HE.out.below hb)
  have HEE1 := Lib.hid (HEE.out.below hb)
  clear hb HS HX HE HB HEE
  have HT := Lib.hid (etext_any w1 x v (HWV.out w1 HB1.out) HR.out (HGV.out w1 HB1.out))
  rw [HVV.out] at HT
  obtain ⟨S, hS⟩ : ∃ S : ByteArray, (⟨x.txt.toArray⟩ : ByteArray) = S := ⟨_, rfl⟩
  have hSt : S.data.toList = x.txt := by rw [← hS]
  rw [hS] at HT
  clear hS
  have z0 := HX1.out.c0
  have z1 := HX1.out.c1
  have z2 := HX1.out.c2
  have z3 := HX1.out.c3
  have z4 := HX1.out.c4
  have z5 := HX1.out.c5
  by_cases hc : x.txt = []
  · have q : S.toList.isEmpty = true := by rw [Lib.toList_data, hSt, hc]; rfl
    clear hSt hc
    go_wp2_with fail
    refine HT.out.mono ?_
    rintro r w2 ⟨rfl, hb⟩
    have HB2 := Lib.hid (HB1.out.trans (hb.mono HB1.out.size))
    clear hb HT
    go_wp2_with fail
    go_ret
    exact ⟨rfl, HB2.out⟩
  · have q : S.toList.isEmpty = false := by
      rw [Lib.toList_data, hSt]
      cases hh : x.txt with
      | nil => exact absurd hh hc
      | cons a l => rfl
    obtain ⟨e', he1, he2⟩ := again_pure x hc
    have HEQ := Lib.hid he2
    rw [← hSt] at he1
    have HRD0 := Lib.hid he1
    clear hSt hc he1 he2
    go_wp2_with fail
    refine HT.out.mono ?_
    rintro r w2 ⟨rfl, hb⟩
    have HB2 := Lib.hid (HB1.out.trans (hb.mono HB1.out.size))
    have HX2 := Lib.hid (HX1.out.below hb)
    have HE2 := Lib.hid (HE1.out.below hb)
    have HRD := Lib.hid (read_any w2 S (HEE1.out.below hb).vr (HEE1.out.below hb).vs _ HRD0.out)
    simp only [ftV] at HRD
    clear hb HT HX1 HE1 HEE1 HRD0 z0 z1 z2 z3 z4 z5 HB1
    go_wp2_with fail
    refine HRD.out.mono ?_
    rintro r w3 ⟨u, rfl, hv, hb⟩
    obtain ⟨W4, g3, g4, hW4, hg3, hg4, HU, HF, HB⟩ := pair_new6 w3 u 0 0
    have HB34 := hb.trans (HB.out.mono hb.size)
    have HX4 := Lib.hid (HX2.out.below HB34)
    have HE4 := Lib.hid (HE2.out.below HB34)
    have HB4 := Lib.hid (HB2.out.trans (HB34.mono HB2.out.size))
    have hgv : GV W4 0 W4.heap.size e'.gx u := (GV.below hv HB.out (Nat.le_refl _)).mono (Nat.zero_le _) HB.out.size
    have HGU := Lib.hid (fun (W : World) (h : Below W4.heap.size W4 W) => (GV.below hgv h (Nat.le_refl _)).mono (Nat.le_refl _) h.size)
    have huu : u.val = .agg #[.int .i64 u.kind, .int .i64 u.num, .string u.name, .int .i64 u.op, .slice u.A u.len u.cap, .int .i64 u.p] := rfl
    rw [huu]
    clear hgv hv hb HRD HB HX2 HE2 HB2 HB34
    go_upto_region 6 with fail
    rw [← hW4, ← hg4, ← hg3]
    clear hW4 hg3 hg4
    have HC := Lib.hid (eval_any x W4 v e xs zs ns (HNV.out W4 HB4.out) (HGV.out W4 HB4.out))
    obtain ⟨⟨N, E⟩, hNE⟩ : ∃ R, evP (envP xs zs ns) x = R := ⟨_, rfl⟩
    have HNE := Lib.hid hNE
    rw [hNE, HVV.out, HVE.out] at HC
    clear hNE
    have z0 := HX4.out.c0
    have z1 := HX4.out.c1
    have z2 := HX4.out.c2
    have z3 := HX4.out.c3
    have z4 := HX4.out.c4
    have z5 := HX4.out.c5
    have y0 := HE4.out.c0
    have y1 := HE4.out.c1
    have y2 := HE4.out.c2
    go_wp2_with fail
    refine HC.out.mono ?_
    rintro r w5 ⟨rfl, hb⟩
    have HB5 := Lib.hid (HB4.out.trans (hb.mono HB4.out.size))
    have HU5 := Lib.hid (HU.out.below hb)
    have HE5 := Lib.hid (HE4.out.below hb)
    have HF5 := Lib.hid (HF.out.below hb)
    have HC := Lib.hid (eval_any e'.gx w5 u e xs zs ns (HNV.out w5 HB5.out) (HGU.out w5 hb))
    rw [HEQ.out, HNE.out, huu, HVE.out] at HC
    clear hb HU HE4 HF z0 z1 z2 z3 z4 z5 y0 y1 y2 HX4 HB4 huu
    have z0 := HU5.out.c0
    have z1 := HU5.out.c1
    have z2 := HU5.out.c2
    have z3 := HU5.out.c3
    have z4 := HU5.out.c4
    have z5 := HU5.out.c5
    have y0 := HE5.out.c0
    have y1 := HE5.out.c1
    have y2 := HE5.out.c2
    go_wp2_with fail
    refine HC.out.mono ?_
    rintro r w6 ⟨rfl, hb⟩
    have HB6 := Lib.hid (HB5.out.trans (hb.mono HB5.out.size))
    have s0 := (HF5.out.below hb).c0
    have q1 : (N == N) = true := beq_self_eq_true _
    have q2 : (E == E) = true := beq_self_eq_true _
    clear hb HC HU5 HE5 HF5 z0 z1 z2 z3 z4 z5 y0 y1 y2
    go_wp2_with fail
    go_ret
    exact ⟨rfl, HB6.out⟩

end Go.Proofs.YthgodhojhajahaaGreatDoor
