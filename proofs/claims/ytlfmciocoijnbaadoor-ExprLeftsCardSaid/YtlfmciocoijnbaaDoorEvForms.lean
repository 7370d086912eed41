/-
  The law ExprForms: its walk.
-/
import Derived.Test.YtlfmciocoijnbaaDoorEvR
import Derived.Test.YtlfmciocoijnbaaDoorEwI
import Derived.Test.YtlfmciocoijnbaaDoorEwJ
namespace Go.Proofs.YtlfmciocoijnbaaDoor
open Go.RowKit

theorem ft_code {x : Option Ex} {l : List UInt8} {c p : Int} (h : rdR l = (x, c, p)) : (x = none ∧ (c == 0) = false ∧ (c != 0) = true) ∨ ∃ e, x = some e ∧ c = 0 ∧ p = 0 := by
  cases x with
  | none =>
    have := rd_none h
    exact .inl ⟨rfl, beq_eq_false_iff_ne.2 this, by simpa using this⟩
  | some e =>
    obtain ⟨h1, h2, _⟩ := rd_some h
    exact .inr ⟨e, rfl, h1, h2⟩

theorem sm_er {x y : Ex} (h : y.er = x.er) : sm false x.gx y.gx = true := by
  rw [sm_false, gx_er, gx_er, h]

theorem toL (l : List UInt8) : (⟨l.toArray⟩ : ByteArray).data.toList = l := rfl

set_option maxHeartbeats 1600000 in
set_option maxRecDepth 20000 in
theorem forms_law (s : ByteArray) (w : World) (_hl : s.size ≤ maxLen) (_hs : s.size ≤ 140737488351232) (hK : KwAt w) (hEr : ErrAt w) (hSg : SgAt w) (hPw : PowTab w) :
    Calls Tryd.prog 4 #[.string s] w fun e w' => e = .returned (.bool true) ∧ Below w.heap.size w w' := by
  have HEE : Hid (Ee w) := ⟨⟨hK, hEr⟩, hSg, hPw⟩
  have HS := Lib.hid (small_any w HEE.out)
  clear hK hEr hSg hPw
  obtain ⟨⟨R, c, p⟩, hR⟩ : ∃ R, rdR s.data.toList = R := ⟨_, rfl⟩
  have HRR := Lib.hid hR
  clear hR
  go_enter Tryd.func4, Tryd.ntmps4
  go_wp2_with fail
  refine HS.out.mono ?_
  rintro e w1 ⟨rfl, hb⟩
  have HB1 := Lib.hid hb
  have HE1 := Lib.hid (HEE.out.below hb)
  clear hb HS
  have HRD := Lib.hid (read_any w1 s HE1.out.vr HE1.out.vs _ HRR.out)
  simp only [ftV] at HRD
  go_wp2_with fail
  refine HRD.out.mono ?_
  rintro e w2 ⟨v, rfl, hv, hb⟩
  obtain ⟨W, g1, g2, hW, hg1, hg2, HX, HF, HB⟩ := pair_new w2 v c p
  have HBB : Hid (Below w.heap.size w W) := (HB1.out.trans (hb.mono HB1.out.size)).trans (HB.out.mono (by have := HB1.out.size; have := hb.size; omega))
  have HRDV : Hid (RD W w1.heap.size v R) := hv.below HB.out
  have HEW := Lib.hid (HEE.out.below HBB.out)
  clear HRD HB hv hb
  have hvv : v.val = .agg #[.int .i64 v.kind, .int .i64 v.num, .string v.name, .int .i64 v.op, .slice v.A v.len v.cap, .int .i64 v.p] := rfl
  rw [hvv]
  go_upto_region 3 with fail
  rw [← hW, ← hg2, ← hg1]
  clear hW hg1 hg2 hvv
  have k0 := HF.out.c0
  rcases ft_code HRR.out with ⟨rfl, q1, q2⟩ | ⟨x, rfl, rfl, rfl⟩
  · go_wp2_with fail
    go_ret
    exact ⟨rfl, HBB.out⟩
  obtain ⟨hfine, hnst, hlen8⟩ := rd_good HRR.out
  have HG : Hid (GV W 0 W.heap.size x.gx v) := (show GV W w1.heap.size W.heap.size x.gx v from HRDV.out).mono (Nat.zero_le _) (Nat.le_refl _)
  have HT := Lib.hid (etext_any W x.gx v HEW.out.wv (fine_rng x hfine) HG.out)
  have HFI := Lib.hid hfine
  have HNS := Lib.hid hnst
  have HRF := Lib.hid (rd_forms HRR.out)
  have z0 := HX.out.c0
  have z1 := HX.out.c1
  have z2 := HX.out.c2
  have z3 := HX.out.c3
  have z4 := HX.out.c4
  have z5 := HX.out.c5
  have hsz : s.data.toList.length = s.size := rfl
  by_cases hlong : 16384 < x.tx.length
  · have h2000 := HRF.out.2 hlong
    have h2000' : (2000 : Int) < s.size := by omega
    rw [gx_txt_long hfine hlong] at HT
    clear hfine hnst hlen8 hlong hsz h2000 HRDV
    go_wp2_with fail
    refine HT.out.mono ?_
    rintro e w3 ⟨rfl, hb⟩
    have HB3 := Lib.hid (HBB.out.trans (hb.mono HBB.out.size))
    clear hb HT
    go_wp2_with fail
    go_ret
    exact ⟨rfl, HB3.out⟩
  · have hle : x.tx.length ≤ 16384 := by omega
    rw [gx_txt hfine hnst hle] at HT
    obtain ⟨y, hy, hye⟩ := HRF.out.1 hle
    obtain ⟨T, hT⟩ : ∃ T : ByteArray, T = ⟨x.tx.toArray⟩ := ⟨_, rfl⟩
    have hTl : T.data.toList = x.tx := by rw [hT]
    rw [← hT] at HT
    have hTn : T.toList.isEmpty = false := by
      rw [Lib.toList_data, hTl]
      obtain ⟨a, r, h, _⟩ := tx_Hd x hfine
      rw [h]; rfl
    have hTT : (T.toList == T.toList) = true := beq_self_eq_true _
    rw [← hTl] at hy
    have HYR := Lib.hid hy
    obtain ⟨yf, yn, _⟩ := rd_good hy
    have HYF := Lib.hid yf
    have HYN := Lib.hid yn
    have HYE := Lib.hid hye
    have HYT : Hid (y.gx.txt = x.tx) := by
      have h1 := er_eq hye
      have h2 : y.tx = x.tx := h1.2.2.2.1
      show y.gx.txt = x.tx
      rw [gx_txt yf yn (by rw [h2]; exact hle), h2]
    have HTE := Lib.hid hT
    clear hfine hnst hlen8 hlong hle hsz HRDV hy hye yf yn hT hTl HRF
    go_wp2_with fail
    refine HT.out.mono ?_
    rintro e w3 ⟨rfl, hb⟩
    have HB3 := Lib.hid (HBB.out.trans (hb.mono HBB.out.size))
    have HX3 := Lib.hid (HX.out.below hb)
    have HG3 : Hid (GV w3 0 w3.heap.size x.gx v) := (HG.out.below hb (Nat.le_refl _)).mono (Nat.le_refl _) hb.size
    have HE3 := Lib.hid (HEE.out.below HB3.out)
    clear hb HT HX HG z0 z1 z2 z3 z4 z5 k0 HF
    have HRD := Lib.hid (read_any w3 T HE3.out.vr HE3.out.vs _ HYR.out)
    simp only [ftV] at HRD
    go_wp2_with fail
    refine HRD.out.mono ?_
    rintro e w4 ⟨u, rfl, hv, hb⟩
    obtain ⟨W5, g3, g4, hW, hg3, hg4, HX5, HF5, HB5⟩ := pair_new w4 u 0 0
    have HBB5 : Hid (Below w.heap.size w W5) := (HB3.out.trans (hb.mono HB3.out.size)).trans (HB5.out.mono (by have := HB3.out.size; have := hb.size; omega))
    have HXX5 := Lib.hid ((HX3.out.below hb).below HB5.out)
    have HGX5 : Hid (GV W5 0 W5.heap.size x.gx v) := by
      have h1 := (HG3.out.below hb (Nat.le_refl _)).mono (Nat.le_refl 0) hb.size
      exact (h1.below HB5.out (Nat.le_refl _)).mono (Nat.le_refl _) HB5.out.size
    have HGY5 : Hid (GV W5 0 W5.heap.size y.gx u) := by
      have h1 : GV w4 w3.heap.size w4.heap.size y.gx u := hv
      exact (h1.below HB5.out (Nat.le_refl _)).mono (Nat.zero_le _) HB5.out.size
    have HE5 := Lib.hid (HEE.out.below HBB5.out)
    clear hv hb HRD HX3 HG3 HB3 HB5
    have HSM := Lib.hid (esame_any W5 x.gx y.gx v u false HGX5.out HGY5.out)
    rw [sm_er HYE.out] at HSM
    have hvv : u.val = .agg #[.int .i64 u.kind, .int .i64 u.num, .string u.name, .int .i64 u.op, .slice u.A u.len u.cap, .int .i64 u.p] := rfl
    rw [hvv]
    go_upto_region 9 with fail
    rw [← hW, ← hg4, ← hg3]
    clear hW hg3 hg4 hvv
    have a0 := HXX5.out.c0
    have a1 := HXX5.out.c1
    have a2 := HXX5.out.c2
    have a3 := HXX5.out.c3
    have a4 := HXX5.out.c4
    have a5 := HXX5.out.c5
    have b0 := HX5.out.c0
    have b1 := HX5.out.c1
    have b2 := HX5.out.c2
    have b3 := HX5.out.c3
    have b4 := HX5.out.c4
    have b5 := HX5.out.c5
    go_wp2_with fail
    refine HSM.out.mono ?_
    rintro e w6 ⟨rfl, hb⟩
    have HB6 := Lib.hid (HBB5.out.trans (hb.mono HBB5.out.size))
    have HX6 := Lib.hid (HX5.out.below hb)
    have HF6 := Lib.hid (HF5.out.below hb)
    have HG6 : Hid (GV w6 0 w6.heap.size y.gx u) := (HGY5.out.below hb (Nat.le_refl _)).mono (Nat.le_refl _) hb.size
    have HE6 := Lib.hid (HEE.out.below HB6.out)
    clear hb HSM a0 a1 a2 a3 a4 a5 b0 b1 b2 b3 b4 b5 HX5 HF5 HXX5
    have HT6 := Lib.hid (etext_any w6 y.gx u HE6.out.wv (fine_rng y HYF.out) HG6.out)
    rw [HYT.out, ← HTE.out] at HT6
    have k0 := HF6.out.c0
    have b0 := HX6.out.c0
    have b1 := HX6.out.c1
    have b2 := HX6.out.c2
    have b3 := HX6.out.c3
    have b4 := HX6.out.c4
    have b5 := HX6.out.c5
    go_wp2_with fail
    refine HT6.out.mono ?_
    rintro e w7 ⟨rfl, hb⟩
    have HB7 := Lib.hid (HB6.out.trans (hb.mono HB6.out.size))
    clear hb HT6 b0 b1 b2 b3 b4 b5
    go_wp2_with fail
    go_ret
    exact ⟨rfl, HB7.out⟩

end Go.Proofs.YtlfmciocoijnbaaDoor
