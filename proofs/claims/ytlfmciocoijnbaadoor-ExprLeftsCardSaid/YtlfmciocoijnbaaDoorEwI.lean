/-
  The small case.
-/
import Derived.Test.YtlfmciocoijnbaaDoorEwH
import Derived.Test.YtlfmciocoijnbaaDoorEB
import Derived.Test.YtlfmciocoijnbaaDoorXE
namespace Go.Proofs.YtlfmciocoijnbaaDoor
open Go.RowKit

/-- What the laws of expressions rest on. -/
structure Ee (w : World) : Prop where
  vr : Vars w
  sg : SgAt w
  pw : PowTab w

theorem Ee.below {w w' : World} (h : Ee w) (hb : Below w.heap.size w w') : Ee w' := ⟨h.vr.below hb, h.sg.below hb, h.pw.below hb⟩
theorem Ee.vs {w : World} (h : Ee w) : Vs w := ⟨h.vr.kw, h.sg⟩
theorem Ee.wv {w : World} (h : Ee w) : Wv w := ⟨h.vr.kw, h.sg, h.pw⟩

theorem fine_rng : ∀ e : Ex, e.fine → e.gx.rng
  | .int n p, h => by
    show GX.rng (.mk 1 n [] 0 [] p)
    rw [GX.rng, GX.rngs]
    exact ⟨⟨by have := h.1; omega, h.2⟩, by decide, by decide, trivial⟩
  | .var s p, h => by
    show GX.rng (.mk 2 0 s 0 [] p)
    rw [GX.rng, GX.rngs]
    obtain ⟨_, _, _, _, _, h2, _⟩ := isNm_parts h
    exact ⟨by decide, by decide, by omega, trivial⟩
  | .inn s p, h => by
    show GX.rng (.mk 3 0 s 0 [] p)
    rw [GX.rng, GX.rngs]
    obtain ⟨_, _, _, _, _, h2, _⟩ := isNm_parts h
    exact ⟨by decide, by decide, by omega, trivial⟩
  | .one op x p, h => by
    show GX.rng (.mk 4 0 [] op [x.gx] p)
    rw [GX.rng, GX.rngs, GX.rngs]
    exact ⟨by decide, by rcases h.1 with h | h <;> rw [h] <;> decide, by decide, fine_rng x h.2, trivial⟩
  | .both op x y, h => by
    show GX.rng (.mk 5 0 [] op [x.gx, y.gx] x.pos)
    rw [GX.rng, GX.rngs, GX.rngs, GX.rngs]
    refine ⟨by decide, ?_, by decide, fine_rng x h.2.1, fine_rng y h.2.2, trivial⟩
    rcases row_cases h.1 with h | h | h | h | h | h | h | h | h | h | h | h | h <;> rw [h] <;> decide

/-- A right tree's text. -/
theorem gx_right {e : Ex} (h : e.fine) (hn : e.nst ≤ 20) (hl : e.tx.length ≤ 16384) : e.gx.right = some e.er := by
  unfold GX.right
  rw [gx_ex e h]
  show (if e.er.nst ≤ 20 ∧ e.er.tx.length ≤ 16384 then some e.er else none) = _
  rw [er_nst, er_tx, if_pos ⟨hn, hl⟩]
theorem gx_txt {e : Ex} (h : e.fine) (hn : e.nst ≤ 20) (hl : e.tx.length ≤ 16384) : e.gx.txt = e.tx := by
  rw [GX.txt_some (gx_right h hn hl), er_tx]

/-- What is read is laid into two variables. -/
theorem pair_new (w : World) (v : EV) (c p : Int) : ∃ (W : World) (g1 g2 : Nat), W = (w.alloc (.cells #[.int .i64 v.kind, .int .i64 v.num, .string v.name, .int .i64 v.op, .slice v.A v.len v.cap, .int .i64 v.p] 24)).alloc (.cells #[.int .i64 c, .int .i64 p] 30) ∧
    g1 = w.heap.size ∧ g2 = w.heap.size + 1 ∧ Hid (XpB W g1 v) ∧ Hid (FtB W g2 (.int .i64 c) (.int .i64 p)) ∧ Hid (Below w.heap.size w W) := by
  have e : (w.alloc (.cells #[.int .i64 v.kind, .int .i64 v.num, .string v.name, .int .i64 v.op, .slice v.A v.len v.cap, .int .i64 v.p] 24)).heap.size = w.heap.size + 1 := by simp
  refine ⟨_, _, _, rfl, rfl, rfl, (XpB.new w v).alloc _, ?_, ((Below.refl _ w).alloc (Nat.le_refl _) _).alloc (by omega) _⟩
  rw [← e]
  exact FtB.new _ _ _

/-- The small case's tree. -/
def smX : Ex := .both 2 (.both 2 (.var [97] 0) (.var [98] 4)) (.int 1 8)
theorem smX_fine : smX.fine := ⟨by decide, ⟨by decide, (show isNm [97] = true by decide), (show isNm [98] = true by decide)⟩, (show (0 : Int) ≤ 1 ∧ (1 : Int) ≤ 9223372036854775807 by decide)⟩
theorem rd_smX : rdR (⟨#[97, 32, 45, 32, 98, 32, 45, 32, 49]⟩ : ByteArray).data.toList = (some smX, 0, 0) := by
  have e : (⟨#[97, 32, 45, 32, 98, 32, 45, 32, 49]⟩ : ByteArray).data.toList = [97, 32, 45, 32, 98, 32, 45, 32, 49] := rfl
  rw [e, rd_small, smX]
theorem smX_nst : smX.nst ≤ 20 := by decide
theorem smX_tx : smX.tx = [97, 32, 45, 32, 98, 32, 45, 32, 49] := by decide +kernel

set_option maxHeartbeats 400000 in
set_option maxRecDepth 20000 in
theorem small_any (w : World) (hE : Ee w) :
    Calls Tryd.prog 8 #[] w fun e w' => e = .returned (.bool true) ∧ Below w.heap.size w w' := by
  have HEE := Lib.hid hE
  obtain ⟨s0, hs0⟩ : ∃ s : ByteArray, s = ⟨#[97, 32, 45, 32, 98, 32, 45, 32, 49]⟩ := ⟨_, rfl⟩
  have hr0 : rdR s0.data.toList = (some smX, 0, 0) := by rw [hs0]; exact rd_smX
  have HRD := Lib.hid (read_any w s0 hE.vr hE.vs (some smX, 0, 0) hr0)
  rw [hs0] at HRD
  simp only [ftV] at HRD
  clear hE hr0 hs0
  go_enter Tryd.func8, Tryd.ntmps8
  go_wp2_with fail
  refine HRD.out.mono ?_
  rintro e w1 ⟨v, rfl, hv, hb⟩
  obtain ⟨W, g1, g2, hW, hg1, hg2, HX, HF, HB⟩ := pair_new w1 v 0 0
  have hgv : GV W w.heap.size W.heap.size smX.gx v := (GV.below hv HB.out (Nat.le_refl _)).mono (Nat.le_refl _) HB.out.size
  have HBB := Lib.hid (hb.trans (HB.out.mono hb.size))
  have HT := Lib.hid (etext_any W smX.gx v (HEE.out.below HBB.out).wv (fine_rng smX smX_fine) (hgv.mono (Nat.zero_le _) (Nat.le_refl _)))
  rw [gx_txt smX_fine smX_nst (by rw [smX_tx]; decide), smX_tx] at HT
  obtain ⟨T, hT⟩ : ∃ T : ByteArray, (⟨[97, 32, 45, 32, 98, 32, 45, 32, 49].toArray⟩ : ByteArray) = T := ⟨_, rfl⟩
  rw [hT] at HT
  have hTL : (T.toList == [97, 32, 45, 32, 98, 32, 45, 32, 49]) = true := by rw [← hT, Lib.toList_data]; rfl
  have e1 := hgv.out.1
  have e4 := hgv.out.2.2.2.1
  have e6 := hgv.out.2.2.2.2.2.1
  have hrow := hgv.out.2.2.2.2.2.2.2.2
  obtain ⟨go, o, v2, hA, _, _, hev, hgv2⟩ := hrow.get 1 (Ex.int 1 8).gx rfl
  have e2 := hgv2.out.2.1
  have y1 := hev.2.1
  rw [e2] at y1
  have eo : o + (0 + 1) * 6 = o + 6 := by omega
  rw [eo] at y1
  replace y1 : W.cell? ⟨go, o + 6 + 1, none⟩ = some (.int .i64 1) := y1
  obtain ⟨k, num, S, op, A, len, cap, p⟩ := v
  replace e1 : k = 5 := e1
  replace e4 : op = 2 := e4
  replace e6 : len = 2 := e6
  replace hA : A = some ⟨go, o, none⟩ := hA
  subst e1 e4 e6 hA
  simp only [EV.val] at HT ⊢
  simp only at hW
  have z0 := HX.out.c0
  have z1 := HX.out.c1
  have z2 := HX.out.c2
  have z3 := HX.out.c3
  have z4 := HX.out.c4
  have z5 := HX.out.c5
  simp only at z0 z1 z2 z3 z4 z5
  have k0 := HF.out.c0
  clear hv hb hgv hrow hev hgv2 e2 eo HRD hT
  go_upto_region 2 with fail
  rw [← hW, ← hg2, ← hg1]
  clear hW hg1 hg2
  go_wp2_with fail
  refine HT.out.mono ?_
  rintro e w2 ⟨rfl, hb⟩
  go_wp2_with fail
  go_ret
  exact ⟨by first | rfl | simp, HBB.out.trans (hb.mono HBB.out.size)⟩

end Go.Proofs.YtlfmciocoijnbaaDoor
