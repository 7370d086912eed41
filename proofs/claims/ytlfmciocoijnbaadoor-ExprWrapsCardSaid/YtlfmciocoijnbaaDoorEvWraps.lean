/-
  The law ExprWraps: its walk.
-/
import Derived.Test.YtlfmciocoijnbaaDoorEvForms
namespace Go.Proofs.YtlfmciocoijnbaaDoor
open Go.RowKit

/-- What Read answers is a tree in memory, whichever. -/
def gxO : Option Ex → GX
  | some x => x.gx
  | none => .mk 0 0 [] 0 [] 0

theorem RD.gv {w : World} {lo : Nat} {v : EV} {R : Option Ex} (h : RD w lo v R) : GV w 0 w.heap.size (gxO R) v := by
  cases R with
  | some x => exact (show GV w lo w.heap.size x.gx v from h).mono (Nat.zero_le _) (Nat.le_refl _)
  | none =>
    have : v = ev0 := h
    subst this
    exact GV.leaf w 0 w.heap.size 0 0 0 0 ⟨#[]⟩

set_option maxHeartbeats 1600000 in
set_option maxRecDepth 20000 in
theorem wraps_law (s : ByteArray) (w : World) (_hl : s.size ≤ maxLen) (_hs : s.size ≤ 140737488351232) (hK : KwAt w) (hEr : ErrAt w) (hSg : SgAt w) (hPw : PowTab w) :
    Calls Tryd.prog 5 #[.string s] w fun e w' => e = .returned (.bool true) ∧ Below w.heap.size w w' := by
  have HEE : Hid (Ee w) := ⟨⟨hK, hEr⟩, hSg, hPw⟩
  have HS := Lib.hid (small_any w HEE.out)
  clear hK hEr hSg hPw
  by_cases hlong : 16384 < s.size
  · have hlong' : (16384 : Int) < s.size := by omega
    go_enter Tryd.func5, Tryd.ntmps5
    go_wp2_with fail
    refine HS.out.mono ?_
    rintro e w1 ⟨rfl, hb⟩
    have HB1 := Lib.hid hb
    clear hb HS
    go_wp2_with fail
    go_ret
    exact ⟨rfl, HB1.out⟩
  have hlong' : ¬ (16384 : Int) < s.size := by omega
  obtain ⟨⟨R, c, p⟩, hR⟩ : ∃ R, rdR s.data.toList = R := ⟨_, rfl⟩
  have HRR := Lib.hid hR
  obtain ⟨N, hN⟩ : ∃ N : ByteArray, N = ⟨#[40]⟩ ++ s ++ ⟨#[10, 41]⟩ := ⟨_, rfl⟩
  have hNl : N.data.toList = 40 :: (s.data.toList ++ [10, 41]) := by rw [hN]; simp
  obtain ⟨⟨R', c', p'⟩, hR'⟩ : ∃ R, rdR N.data.toList = R := ⟨_, rfl⟩
  have HRR' := Lib.hid hR'
  have HNL := Lib.hid hNl
  have HNN := Lib.hid hN.symm
  have e4 : ¬ 9223372036854775807 < 1 + s.size := by omega
  have e5 : ¬ 9223372036854775807 < 1 + s.size + 2 := by omega
  clear hR hN hNl hR' hlong
  go_enter Tryd.func5, Tryd.ntmps5
  go_wp2_with fail
  refine HS.out.mono ?_
  rintro e w1 ⟨rfl, hb⟩
  have HB1 := Lib.hid hb
  have HE1 := Lib.hid (HEE.out.below hb)
  clear hb HS
  have HRD := Lib.hid (read_any w1 s HE1.out.vr HE1.out.vs _ HRR.out)
  simp only [ftV] at HRD
  go_wp2_with fail
  refine HRD.out.mono ?_
  rintro e w2 ⟨v, rfl, hv, hb⟩
  obtain ⟨W, g1, g2, hW, hg1, hg2, HX, HF, HB⟩ := pair_new w2 v c p
  have HBB : Hid (Below w.heap.size w W) := (HB1.out.trans (hb.mono HB1.out.size)).trans (HB.out.mono (by have := HB1.out.size; have := hb.size; omega))
  have HG : Hid (GV W 0 W.heap.size (gxO R) v) := (hv.below HB.out).gv
  have HEW := Lib.hid (HEE.out.below HBB.out)
  clear HRD HB hv hb
  have hvv : v.val = .agg #[.int .i64 v.kind, .int .i64 v.num, .string v.name, .int .i64 v.op, .slice v.A v.len v.cap, .int .i64 v.p] := rfl
  rw [hvv]
  go_upto_region 5 with fail
  rw [← hW, ← hg2, ← hg1]
  clear hW hg1 hg2 hvv
  have HRD := Lib.hid (read_any W N HEW.out.vr HEW.out.vs _ HRR'.out)
  simp only [ftV] at HRD
  go_wp2_with fail
  rw [show ({ data := #[40] } : ByteArray) ++ s ++ { data := #[10, 41] } = N from HNN.out]
  refine HRD.out.mono ?_
  rintro e w4 ⟨u, rfl, hv, hb⟩
  obtain ⟨W5, g3, g4, hW, hg3, hg4, HX5, HF5, HB5⟩ := pair_new w4 u c' p'
  have HBB5 : Hid (Below w.heap.size w W5) := (HBB.out.trans (hb.mono HBB.out.size)).trans (HB5.out.mono (by have := HBB.out.size; have := hb.size; omega))
  have HXX5 := Lib.hid ((HX.out.below hb).below HB5.out)
  have HFF5 := Lib.hid ((HF.out.below hb).below HB5.out)
  have HGX5 : Hid (GV W5 0 W5.heap.size (gxO R) v) := by
    have h1 := (HG.out.below hb (Nat.le_refl _)).mono (Nat.le_refl 0) hb.size
    exact (h1.below HB5.out (Nat.le_refl _)).mono (Nat.le_refl _) HB5.out.size
  have HGY5 : Hid (GV W5 0 W5.heap.size (gxO R') u) := (hv.below HB5.out).gv
  clear hv hb HRD HX HF HG HB5 HBB e4 e5
  have huu : u.val = .agg #[.int .i64 u.kind, .int .i64 u.num, .string u.name, .int .i64 u.op, .slice u.A u.len u.cap, .int .i64 u.p] := rfl
  rw [huu]
  go_upto_region 6 with fail
  rw [← hW, ← hg4, ← hg3]
  clear hW hg3 hg4
  have k0 := HFF5.out.c0
  rcases ft_code HRR.out with ⟨rfl, q1, q2⟩ | ⟨x, rfl, rfl, rfl⟩
  · go_wp2_with fail
    go_ret
    exact ⟨rfl, HBB5.out⟩
  obtain ⟨B, hB⟩ : ∃ B, sm false (gxO (some x)) (gxO R') = B := ⟨_, rfl⟩
  have HSM := Lib.hid (esame_any W5 (gxO (some x)) (gxO R') v u false HGX5.out HGY5.out)
  rw [hB, huu] at HSM
  have hcase : (c' == 21) = true ∨ ((c' == 21) = false ∧ (c' == 2) = true) ∨ ((c' == 21) = false ∧ (c' == 2) = false ∧ (c' == 0) = true ∧ B = true) := by
    have h := rd_wrap HRR.out
    rw [← HNL.out, HRR'.out] at h
    rcases h with ⟨y, h1, h2⟩ | ⟨p, h1⟩ | ⟨p, h1⟩
    · simp only [Prod.mk.injEq] at h1
      obtain ⟨rfl, rfl, rfl⟩ := h1
      exact .inr (.inr ⟨rfl, rfl, rfl, by rw [← hB]; exact sm_er h2⟩)
    · simp only [Prod.mk.injEq] at h1
      obtain ⟨_, rfl, _⟩ := h1
      exact .inl rfl
    · simp only [Prod.mk.injEq] at h1
      obtain ⟨_, rfl, _⟩ := h1
      exact .inr (.inl ⟨rfl, rfl⟩)
  have HCA := Lib.hid hcase
  clear hB hcase huu
  have a0 := HXX5.out.c0
  have a1 := HXX5.out.c1
  have a2 := HXX5.out.c2
  have a3 := HXX5.out.c3
  have a4 := HXX5.out.c4
  have a5 := HXX5.out.c5
  have b0 := HX5.out.c0
  have b1 := HX5.out.c1
  have b2 := HX5.out.c2
  have b3 := HX5.out.c3
  have b4 := HX5.out.c4
  have b5 := HX5.out.c5
  go_wp2_with fail
  refine HSM.out.mono ?_
  rintro e w6 ⟨rfl, hb⟩
  have HB6 := Lib.hid (HBB5.out.trans (hb.mono HBB5.out.size))
  have HF6 := Lib.hid (HF5.out.below hb)
  clear hb HSM a0 a1 a2 a3 a4 a5 b0 b1 b2 b3 b4 b5 k0 HF5 HX5
  have k0 := HF6.out.c0
  rcases HCA.out with q1 | ⟨q1, q2⟩ | ⟨q1, q2, q3, rfl⟩
  · go_wp2_with fail
    go_ret
    exact ⟨rfl, HB6.out⟩
  · go_wp2_with fail
    go_ret
    exact ⟨rfl, HB6.out⟩
  · go_wp2_with fail
    go_ret
    exact ⟨rfl, HB6.out⟩

end Go.Proofs.YtlfmciocoijnbaaDoor
