/-
  The law SyntaxBlocks: its walk.
-/
import Derived.Test.YtcddbfdbhjkjgaaGreatDoorSvRooms
import Derived.Test.YtcddbfdbhjkjgaaGreatDoorSeF
namespace Go.Proofs.YtcddbfdbhjkjgaaGreatDoor
open Go.RowKit

/-- A chart, as it is read. -/
theorem chart_any (w : World) (s : ByteArray) (hVr : Vars w) (hV : Vs w) {R : Rs SyChart} (hR : syF s.data.toList = R) :
    Calls Tryz.prog 8 #[.string s] w fun e w' => ∃ y0 y1 y2 y3 y4 y5 y6 y7 y8 y9 F, e = .returned (.tuple #[.agg #[y0, y1, y2, y3, y4, y5, y6, y7, y8, y9], .agg #[.int .i64 R.fc, .int .i64 R.fp]]) ∧ (∀ u ∈ [y0, y1, y2, y3, y4, y5, y6, y7, y8, y9], u.oneCell' = true) ∧ DvsAt w' (dvChart true R.chart) [y0, y1, y2, y3, y4, y5, y6, y7, y8, y9] F ∧ F.Nodup ∧ (∀ g ∈ F, w.heap.size ≤ g) ∧ (∀ c p, R = .bad c p → c ≠ 0) ∧ Below w.heap.size w w' := by
  refine (sparse_any w s hVr hV).mono ?_
  rw [hR]
  rintro e w' ⟨ys, rfl, ⟨F, hr, h1, h2⟩, hl, hb, hz⟩
  have zo := hr.ones
  obtain ⟨y0, y1, y2, y3, y4, y5, y6, y7, y8, y9, rfl⟩ := cells10 hl
  exact ⟨y0, y1, y2, y3, y4, y5, y6, y7, y8, y9, F, rfl, zo, hr, h1, h2, hz, hb⟩
theorem fc_ok {R : Rs SyChart} (ho : R ≠ .out) (hz : ∀ c p, R = .bad c p → c ≠ 0) (h : R.fc = 0) : ∃ c r, R = .ok c r ∧ R.chart = c := by
  cases R with
  | out => exact absurd rfl ho
  | bad c p => exact absurd h (hz c p rfl)
  | ok c r => exact ⟨c, r, rfl, rfl⟩
theorem ok_short {l : List UInt8} {c : SyChart} {r : Ss} (h : syF l = .ok c r) : l.length ≤ 16384 := by
  unfold syF at h
  split at h
  · exact sc_short (by assumption)
  · cases h
/-- Both texts are right: their charts agree. -/
theorem blocks_agree (l t : List UInt8) {R R' : Rs SyChart} (h : syF (headS2 ++ l ++ 10 :: (blkA ++ t)) = R) (h' : syF (headS2 ++ l ++ 10 :: (blkB ++ t)) = R') (hz : ∀ c p, R = .bad c p → c ≠ 0) (hz' : ∀ c p, R' = .bad c p → c ≠ 0) (h0 : R.fc = 0) (h0' : R'.fc = 0) : cG false R.chart R'.chart := by
  obtain ⟨c, r, e, k⟩ := fc_ok (by rw [← h]; exact syF_out _) hz h0
  obtain ⟨c', r', e', k'⟩ := fc_ok (by rw [← h']; exact syF_out _) hz' h0'
  rw [k, k']
  rw [e] at h
  rw [e'] at h'
  exact cG_er (blocks_text l t (ok_short h) (ok_short h') h h').symm

set_option maxHeartbeats 6400000 in
set_option maxRecDepth 20000 in
theorem blocks_law (H T : ByteArray) (w : World) (_h1 : H.size ≤ maxLen) (_h2 : H.size ≤ 140737488351232) (_h3 : T.size ≤ maxLen) (_h4 : T.size ≤ 140737488351232) (hK : KwAt w) (hEr : ErrAt w) (hSg : SgAt w) :
    Calls Tryz.prog 5 #[.string H, .string T] w fun e w' => e = .returned (.bool true) ∧ Below w.heap.size w w' := by
  have HVR : Hid (Vars w) := ⟨hK, hEr⟩
  have HVS : Hid (Vs w) := ⟨hK, hSg⟩
  have HS := Lib.hid (small7_any w HVR.out HVS.out)
  clear hK hEr hSg _h1 _h2 _h3 _h4
  by_cases hh : H.size > 16384
  · have hh' : decide ((H.size : Int) > 16384) = true := decide_eq_true (by omega)
    have hh2 : (H.size : Int) > 16384 := by omega
    clear hh
    go_enter Tryz.func5, Tryz.ntmps5
    go_wp2_with fail
    refine HS.out.mono ?_
    rintro e w1 ⟨rfl, hb1⟩
    go_wp2_with fail
    go_ret
    exact ⟨rfl, hb1⟩
  by_cases ht : T.size > 16384
  · have hh' : decide ((H.size : Int) > 16384) = false := decide_eq_false (by omega)
    have hh2 : ¬ (H.size : Int) > 16384 := by omega
    have ht' : decide ((T.size : Int) > 16384) = true := decide_eq_true (by omega)
    have ht2 : (T.size : Int) > 16384 := by omega
    clear hh ht
    go_enter Tryz.func5, Tryz.ntmps5
    go_wp2_with fail
    refine HS.out.mono ?_
    rintro e w1 ⟨rfl, hb1⟩
    go_wp2_with fail
    go_ret
    exact ⟨rfl, hb1⟩
  have HHT : Hid (H.size ≤ 16384 ∧ T.size ≤ 16384) := ⟨by omega, by omega⟩
  have hh' : decide ((H.size : Int) > 16384) = false := decide_eq_false (by omega)
  have hh2 : ¬ (H.size : Int) > 16384 := by omega
  have ht' : decide ((T.size : Int) > 16384) = false := decide_eq_false (by omega)
  have ht2 : ¬ (T.size : Int) > 16384 := by omega
  obtain ⟨RA, hRA⟩ : ∃ R, syF (headS2 ++ H.data.toList ++ 10 :: (blkA ++ T.data.toList)) = R := ⟨_, rfl⟩
  obtain ⟨RB, hRB⟩ : ∃ R, syF (headS2 ++ H.data.toList ++ 10 :: (blkB ++ T.data.toList)) = R := ⟨_, rfl⟩
  have HAG := Lib.hid (blocks_agree H.data.toList T.data.toList hRA hRB)
  have HCA := Lib.hid (fun (W : World) (hb : Below w.heap.size w W) => chart_any W ((⟨#[99, 104, 97, 114, 116, 32, 99, 32, 123, 32]⟩ : ByteArray) ++ H ++ ⟨#[10, 101, 110, 116, 101, 114, 32, 123, 32, 125, 32, 111, 110, 32, 103, 111, 32, 45, 62, 32, 120, 59, 32]⟩ ++ T) (HVR.out.below hb) (HVS.out.below hb) (R := RA) (by
    rw [← hRA]
    congr 1
    simp [headS2, headS, blkA]))
  have HCB := Lib.hid (fun (W : World) (hb : Below w.heap.size w W) => chart_any W ((⟨#[99, 104, 97, 114, 116, 32, 99, 32, 123, 32]⟩ : ByteArray) ++ H ++ ⟨#[10, 111, 110, 32, 103, 111, 32, 123, 32, 125, 32, 45, 62, 32, 120, 59, 32]⟩ ++ T) (HVR.out.below hb) (HVS.out.below hb) (R := RB) (by
    rw [← hRB]
    congr 1
    simp [headS2, headS, blkB]))
  have g1 : ¬ 9223372036854775807 < 10 + H.size := by omega
  have g2 : ¬ 9223372036854775807 < 10 + H.size + 23 := by omega
  have g3 : ¬ 9223372036854775807 < 10 + H.size + 23 + T.size := by omega
  have g4 : ¬ 9223372036854775807 < 10 + H.size + 17 := by omega
  have g5 : ¬ 9223372036854775807 < 10 + H.size + 17 + T.size := by omega
  clear hRA hRB hh ht
  go_enter Tryz.func5, Tryz.ntmps5
  go_wp2_with fail
  refine HS.out.mono ?_
  rintro e w1 ⟨rfl, hb1⟩
  have HB1 := Lib.hid hb1
  clear hb1 HS
  go_wp2_with fail
  clear hh' hh2 ht' ht2
  refine (HCA.out _ HB1.out).mono ?_
  rintro e w2 ⟨y0, y1, y2, y3, y4, y5, y6, y7, y8, y9, F2, rfl, zo, dv2, -, -, hz2, hb⟩
  obtain ⟨W2, ga2, gf2, hW, hg1, hg2, HC2, HF2, HB⟩ := pair_chart w2 y0 y1 y2 y3 y4 y5 y6 y7 y8 y9 RA.fc RA.fp
  have st : ∀ u ∈ [y0, y1, y2, y3, y4, y5, y6, y7, y8, y9], ∀ (w : World) (a : Addr), (store a u).run Tryz.prog w = stored Tryz.prog w a u .plain := fun u hu w a => run_store _ w a u .plain (zo u hu)
  have s0 := st y0 (by simp)
  have s1 := st y1 (by simp)
  have s2 := st y2 (by simp)
  have s3 := st y3 (by simp)
  have s4 := st y4 (by simp)
  have s5 := st y5 (by simp)
  have s6 := st y6 (by simp)
  have s7 := st y7 (by simp)
  have s8 := st y8 (by simp)
  have s9 := st y9 (by simp)
  have HDV2 := Lib.hid (dv2.below HB.out)
  have HZ2 := Lib.hid hz2
  have HB2 : Hid (Below w.heap.size w W2) := HB1.out.trans ((hb.trans (HB.out.mono hb.size)).mono HB1.out.size)
  clear st zo hb HB dv2 hz2 HCA
  go_upto_region 5 with fail
  rw [← hW, ← hg2, ← hg1]
  clear hW hg1 hg2 s0 s1 s2 s3 s4 s5 s6 s7 s8 s9
  obtain ⟨Y, hY⟩ : ∃ Y, [y0, y1, y2, y3, y4, y5, y6, y7, y8, y9] = Y := ⟨_, rfl⟩
  rw [hY] at HDV2 HC2
  go_wp2_with fail
  refine (HCB.out _ HB2.out).mono ?_
  rintro e w3 ⟨z0, z1, z2, z3, z4, z5, z6, z7, z8, z9, F3, rfl, zo, dv3, -, -, hz3, hb⟩
  obtain ⟨W3, ga3, gf3, hW, hg1, hg2, HC3, HF3, HB⟩ := pair_chart w3 z0 z1 z2 z3 z4 z5 z6 z7 z8 z9 RB.fc RB.fp
  have st : ∀ u ∈ [z0, z1, z2, z3, z4, z5, z6, z7, z8, z9], ∀ (w : World) (a : Addr), (store a u).run Tryz.prog w = stored Tryz.prog w a u .plain := fun u hu w a => run_store _ w a u .plain (zo u hu)
  have s0 := st z0 (by simp)
  have s1 := st z1 (by simp)
  have s2 := st z2 (by simp)
  have s3 := st z3 (by simp)
  have s4 := st z4 (by simp)
  have s5 := st z5 (by simp)
  have s6 := st z6 (by simp)
  have s7 := st z7 (by simp)
  have s8 := st z8 (by simp)
  have s9 := st z9 (by simp)
  have HDV3 := Lib.hid (dv3.below HB.out)
  have HZ3 := Lib.hid hz3
  have hbb : Below W2.heap.size W2 W3 := hb.trans (HB.out.mono hb.size)
  have HB3 : Hid (Below w.heap.size w W3) := HB2.out.trans (hbb.mono HB2.out.size)
  have HF2' := Lib.hid (HF2.out.below hbb)
  have HC2' := Lib.hid (HC2.out.below hbb)
  have HDV2' := Lib.hid (HDV2.out.below hbb)
  clear hbb HF2 HC2 HDV2 HB2
  clear st zo hb HB dv3 hz3 HCB
  go_upto_region 6 with fail
  rw [← hW, ← hg2, ← hg1]
  clear hW hg1 hg2 s0 s1 s2 s3 s4 s5 s6 s7 s8 s9
  clear g1 g2 g3 g4 g5
  have x2 := HF2'.out.c0
  have x3 := HF3.out.c0
  by_cases hc2 : RA.fc = 0
  · by_cases hc3 : RB.fc = 0
    · have q2 : (RA.fc != 0) = false := by rw [hc2]; rfl
      have q3 : (RB.fc != 0) = false := by rw [hc3]; rfl
      have hag := HAG.out HZ2.out HZ3.out hc2 hc3
      subst hY
      have HSC := Lib.hid (samechart_any W3 false true true RA.chart RB.chart _ _ _ _ HDV2'.out HDV3.out hag)
      have u0 := HC2'.out.c 0 rfl
      have u1 := HC2'.out.c 1 rfl
      have u2 := HC2'.out.c 2 rfl
      have u3 := HC2'.out.c 3 rfl
      have u4 := HC2'.out.c 4 rfl
      have u5 := HC2'.out.c 5 rfl
      have u6 := HC2'.out.c 6 rfl
      have u7 := HC2'.out.c 7 rfl
      have u8 := HC2'.out.c 8 rfl
      have u9 := HC2'.out.c 9 rfl
      have v0 := HC3.out.c 0 rfl
      have v1 := HC3.out.c 1 rfl
      have v2 := HC3.out.c 2 rfl
      have v3 := HC3.out.c 3 rfl
      have v4 := HC3.out.c 4 rfl
      have v5 := HC3.out.c 5 rfl
      have v6 := HC3.out.c 6 rfl
      have v7 := HC3.out.c 7 rfl
      have v8 := HC3.out.c 8 rfl
      have v9 := HC3.out.c 9 rfl
      clear hc2 hc3 hag HAG
      go_wp2_with fail
      refine HSC.out.mono ?_
      rintro e w4 ⟨rfl, hb4⟩
      have HB4 := Lib.hid hb4
      clear hb4 HSC
      go_wp2_with fail
      go_ret
      exact ⟨rfl, HB3.out.trans (HB4.out.mono HB3.out.size)⟩
    · have q2 : (RA.fc != 0) = false := by rw [hc2]; rfl
      have q3 : (RB.fc != 0) = true := by simpa [bne] using hc3
      clear hc2 hc3
      go_wp2_with fail
      go_ret
      exact ⟨rfl, HB3.out⟩
  · have q2 : (RA.fc != 0) = true := by simpa [bne] using hc2
    clear hc2
    go_wp2_with fail
    go_ret
    exact ⟨rfl, HB3.out⟩

end Go.Proofs.YtcddbfdbhjkjgaaGreatDoor
