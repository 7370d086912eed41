/-
  The document's writer of expressions: an operator of two.
-/
import Derived.Test.YtlfmciocoijnbaaGreatDoorEqG
namespace Go.Proofs.YtlfmciocoijnbaaGreatDoor
open Go.RowKit

set_option maxHeartbeats 6400000 in
set_option maxRecDepth 20000 in
theorem pexpr_both (u : World) (b : Nat) (x : GX) (hk : x.kind = 5) (ih : ∀ (i : Nat) (z : GX), x.subs[i]? = some z → GPar u b z) : GExp u b x := by
  intro w v l e hx hg hbl hpb hl
  obtain ⟨a1, a2, a3, a4, a5, a6, a7, a8, a9⟩ := hg.out
  obtain ⟨g1, hg1⟩ : ∃ g1, g1 = w.heap.size := ⟨_, rfl⟩
  obtain ⟨W0, hW0⟩ : ∃ W0, W0 = w.alloc (.cells #[.int .i64 v.kind, .int .i64 v.num, .string v.name, .int .i64 v.op, .slice v.A v.len v.cap, .int .i64 v.p] 26) := ⟨_, rfl⟩
  have HA : Hid (PAt u b g1 v w W0 l) := by rw [hW0, hg1]; exact PAt.new hbl hpb hl
  have HWA : Hid (Wk u.heap.size b w W0) := HA.out.wk
  have hn1 : g1 ≠ b := by have := hpb.lt; omega
  have HN1 := Lib.hid hn1
  obtain ⟨ao, acap, p0⟩ := HA.out.pb.c0
  have z0 := HA.out.xp.c0
  have hvv : v.val = .agg #[.int .i64 v.kind, .int .i64 v.num, .string v.name, .int .i64 v.op, .slice v.A v.len v.cap, .int .i64 v.p] := rfl
  by_cases hfull : 16384 < l.length
  · have hfull' : (16384 : Int) < l.length := by omega
    rw [hvv]
    have HFU := Lib.hid hfull
    have HLL := Lib.hid hl
    clear hx hg hbl hpb hl hk a1 a2 a3 a4 a5 a6 a7 a8 a9 hvv hn1 hfull z0 ih
    go_enter Tryz.func27, Tryz.ntmps27
    go_upto_region 1 with fail
    rw [← hW0, ← hg1]
    clear hW0 hg1
    go_wp2_with fail
    refine bodyPost_ret (results_none rfl _ _ _) rfl ?_
    exact ⟨rfl, ⟨l, HA.out.pb, Pg.full HFU.out HLL.out⟩, HWA.out⟩
  have hfull' : ¬ (16384 : Int) < l.length := by omega
  have HLX := Lib.hid (fun W => elevel_any W x v a1 a4)
  have hlx : lvl x = rowOf v.op := by unfold lvl; rw [if_pos hk, a4]
  obtain ⟨kk, nn, ss, oo, ls, pp⟩ := x
  rw [ex_mk] at hx
  replace a1 : v.kind = kk := a1
  replace a4 : v.op = oo := a4
  replace a6 : v.len = ls.length := a6
  replace a9 : GRow u 0 u.heap.size ls v.A 0 := a9
  replace hk : kk = 5 := hk
  subst hk
  obtain ⟨e1, e2, h3, hls, rfl⟩ : ∃ y y', rowOf oo < 6 ∧ GX.exs ls = [some y, some y'] ∧ e = .both oo y y' := by
    rcases node_some hx with ⟨h, _⟩ | ⟨h, _⟩ | ⟨h, _⟩ | ⟨y, h, _⟩ | ⟨y, y', _, h1, h2, h3, h4, h5⟩
    · cases h
    · cases h
    · cases h
    · cases h
    · exact ⟨y, y', h3, h4, h5⟩
  obtain ⟨z, zz, rfl, hz, hzz⟩ := exs_is_two hls
  have HPT := ih 0 z rfl
  have HPT' := ih 1 zz rfl
  obtain ⟨go, o, v', hAe, _, hgo, hev, hgz⟩ := a9.get 0 z rfl
  obtain ⟨go', o', v2, hA', _, _, hev', hgz'⟩ := a9.get 1 zz rfl
  obtain ⟨rfl, rfl⟩ : go' = go ∧ o' = o := by
    rw [hAe] at hA'
    injection hA' with hA'
    injection hA' with h1 h2
    exact ⟨h1.symm, h2.symm⟩
  have eo : o' + (0 + 0) * 6 = o' := by omega
  have eo' : o' + (0 + 1) * 6 = o' + 6 := by omega
  rw [eo] at hev
  rw [eo'] at hev'
  have HEV := Lib.hid (fun (W : World) (hb : Below u.heap.size u W) => hev.same (hb.block go' hgo))
  have HEV' := Lib.hid (fun (W : World) (hb : Below u.heap.size u W) => hev'.same (hb.block go' hgo))
  obtain ⟨K, hK⟩ : ∃ K, rowOf oo = K := ⟨_, rfl⟩
  rw [a4, hK] at hlx
  rw [hlx] at HLX
  have hK6 : K < 6 := by omega
  have hmem := row_mem h3
  rw [hK] at hmem
  obtain ⟨q, hq⟩ := List.getElem?_of_mem hmem
  have HQQ := Lib.hid hq
  obtain ⟨lz, hlz⟩ : ∃ n, lvl z = n := ⟨_, rfl⟩
  obtain ⟨lzz, hlzz⟩ : ∃ n, lvl zz = n := ⟨_, rfl⟩
  have hz1 : e1.lev = lz := by rw [← hlz, lvl_lev hz]
  have hz2 : e2.lev = lzz := by rw [← hlzz, lvl_lev hzz]
  obtain ⟨c1, hc1⟩ : ∃ c, decide (lz < K) = c := ⟨_, rfl⟩
  obtain ⟨c2, hc2⟩ : ∃ c, decide (lzz ≤ K) = c := ⟨_, rfl⟩
  have HTX : Hid ((Ex.both oo e1 e2).tx = par c1 e1.tx ++ (32 :: (sgOf oo ++ [32]) ++ par c2 e2.tx)) := by
    show _ = _
    have d1 : decide (e1.lev < rowOf oo) = c1 := by rw [← hc1, hz1, hK]
    have d2 : decide (e2.lev ≤ rowOf oo) = c2 := by rw [← hc2, hz2, hK]
    rw [both_tx, d1, d2]
    simp
  have HC1 := Lib.hid hc1
  have HC2 := Lib.hid hc2
  have k1 : v'.kind = z.kind := hgz.out.1
  have k2 : v2.kind = zz.kind := hgz'.out.1
  have o1 : v'.op = z.op := hgz.out.2.2.2.1
  have o2 : v2.op = zz.op := hgz'.out.2.2.2.1
  have HLZ := Lib.hid (fun W => elevel_any W z v' k1 o1)
  have HLZ' := Lib.hid (fun W => elevel_any W zz v2 k2 o2)
  rw [hlz] at HLZ
  rw [hlzz] at HLZ'
  obtain ⟨SG, hSG⟩ : ∃ SG : ByteArray, SG = ⟨(sgOf oo).toArray⟩ := ⟨_, rfl⟩
  have hSL : SG.data.toList = sgOf oo := by rw [hSG]
  have hSV : txV (sgOf oo) = .string SG := by rw [hSG]; rfl
  have hss : SG.size ≤ 2 := by
    have h1 : SG.data.toList.length = SG.size := rfl
    have := sg_len h3
    rw [hSL] at h1
    omega
  obtain ⟨sl, hsl⟩ : ∃ sl, sgOf oo = sl := ⟨_, rfl⟩
  rw [hsl] at HTX hSL hSV HQQ
  have HSL := Lib.hid hSL
  have HSV := Lib.hid hSV
  obtain ⟨k, num, S, op, A, len, cap, p⟩ := v
  simp only at hW0 a1 a4 a6 a7 hAe z0 hvv HLX
  subst a1 a4 hAe
  have hlen : len = 2 := by rw [a6]; rfl
  subst hlen
  have hcap : 2 ≤ cap := a7
  obtain ⟨V, hV⟩ : ∃ V : EV, V = ⟨5, num, S, op, some ⟨go', o', none⟩, 2, cap, p⟩ := ⟨_, rfl⟩
  rw [← hV] at HA
  obtain ⟨kA, numA, SA, opA, AA, lenA, capA, pA⟩ := v'
  obtain ⟨kB, numB, SB, opB, AB, lenB, capB, pB⟩ := v2
  simp only [EV.val] at HLZ HLZ' HLX ⊢
  -- what the calls at the two operands leave
  have HPC := Lib.hid (fun (W : World) (l : List UInt8) (h : PAt u b g1 V w W l) => HPT W ⟨kA, numA, SA, opA, AA, lenA, capA, pA⟩ c1 l e1 hz hgz h.bl h.pb h.le)
  have HPC' := Lib.hid (fun (W : World) (l : List UInt8) (h : PAt u b g1 V w W l) => HPT' W ⟨kB, numB, SB, opB, AB, lenB, capB, pB⟩ c2 l e2 hzz hgz' h.bl h.pb h.le)
  simp only [EV.val] at HPC HPC'
  have HV := Lib.hid hV
  have HC4 : Hid (∀ (W : World) (l : List UInt8), PAt u b g1 V w W l → W.cell? ⟨g1, 4, none⟩ = some (.slice (some ⟨go', o', none⟩) 2 cap) ∧ W.cell? ⟨g1, 3, none⟩ = some (.int .i64 op)) := fun W l h => by
    have h4 := h.xp.c4
    have h3 := h.xp.c3
    rw [hV] at h4 h3
    exact ⟨h4, h3⟩
  have HTXX := Lib.hid HTX.out
  have hKI : (K : Int) < 6 := by omega
  clear hx hg hbl hpb hl a2 a3 a5 a6 a7 a8 a9 hn1 hfull ih HPT HPT' hz hzz hev hev' hgz hgz' eo eo' hgo hls hA' hlx hK hmem hq hlz hlzz hz1 hz2 hc1 hc2 k1 k2 o1 o2 hSG hSL hSV hsl hvv HTX hV h3
  go_enter Tryz.func27, Tryz.ntmps27
  go_upto_region 1 with fail
  rw [← hW0, ← hg1]
  clear hW0 hg1
  have z1 := HA.out.xp.c1
  have z2 := HA.out.xp.c2
  have z3 := HA.out.xp.c3
  have z4 := HA.out.xp.c4
  have z5 := HA.out.xp.c5
  rw [HV.out] at z1 z2 z3 z4 z5
  simp only at z1 z2 z3 z4 z5
  go_wp2_with fail
  refine (HLX.out W0).mono ?_
  rintro r w2 ⟨rfl, hb⟩
  have HA2 := Lib.hid (HA.out.below HN1.out hb)
  clear hb z0 z1 z2 z3 z4 z5 HLX HA p0
  go_wp2_with fail
  refine (enumbers_obj w2).mono ?_
  rintro r w3 ⟨rfl, hw3⟩
  have hb3 : Below w2.heap.size w2 w3 := by rw [hw3]; exact sixW_below w2 _ _ _
  have HA3 := Lib.hid (HA2.out.below HN1.out hb3)
  have hnb : NumB w3 (w2.heap.size + K) K := by rw [hw3]; exact (sixW_heap w2 _ _ _).1 K hK6
  have hrow : w3.cell? ⟨w2.heap.size + 6, K, none⟩ = some (.slice (some ⟨w2.heap.size + K, 0, none⟩) (rowOps K).length (rowOps K).length) := by
    rw [hw3]
    have hh := (sixW_heap w2 (fun o : List UInt8 × Int => .int .i64 o.2) 3 93).2
    rw [cell_of_row _ _ _ _ _ _ hh]
    match K, hK6 with
    | 0, _ => rfl
    | 1, _ => rfl
    | 2, _ => rfl
    | 3, _ => rfl
    | 4, _ => rfl
    | 5, _ => rfl
  have hgnb : w2.heap.size + K ≠ b := by have := HA2.out.pb.lt; omega
  obtain ⟨gn, hgn⟩ : ∃ g, w2.heap.size + K = g := ⟨_, rfl⟩
  obtain ⟨gr, hgr⟩ : ∃ g, w2.heap.size + 6 = g := ⟨_, rfl⟩
  obtain ⟨m, hm⟩ : ∃ m, (rowOps K).length = m := ⟨_, rfl⟩
  rw [hgn] at hnb hrow hgnb
  rw [hgr] at hrow ⊢
  rw [hm] at hrow
  have hm4 : m ≤ 4 := by rw [← hm]; exact rowOps_len K
  have HM := Lib.hid hm
  have HNB := Lib.hid hnb
  have HGN := Lib.hid hgnb
  clear hw3 hb3 hnb hgnb hgn hgr hm HA2
  go_upto_region 17 with fail
  clear hrow
  -- the left operand
  have HD3 := Lib.hid (HA3.out.drew HN1.out)
  have HND : Hid (NumB w3.drew gn K) := HNB.out.below (Below.refl _ w3).drew
  obtain ⟨s4, _⟩ := HC4.out w3 l HA3.out
  obtain ⟨y0, y1, y2, y3, y4, y5⟩ := HEV.out w3 HA3.out.bl
  simp only at y0 y1 y2 y3 y4 y5
  have HLZd : Hid (Calls Tryz.prog 44 #[.agg #[.int .i64 kA, .int .i64 numA, .string SA, .int .i64 opA, .slice AA lenA capA, .int .i64 pA]] w3.drew fun e w' => e = .returned (.int .i64 (lz : Int)) ∧
      w'.cell? ⟨g1, 4, none⟩ = some (.slice (some ⟨go', o', none⟩) 2 cap) ∧ w'.cell? ⟨go', o', none⟩ = some (.int .i64 kA) ∧ w'.cell? ⟨go', o' + 1, none⟩ = some (.int .i64 numA) ∧ w'.cell? ⟨go', o' + 2, none⟩ = some (.string SA) ∧ w'.cell? ⟨go', o' + 3, none⟩ = some (.int .i64 opA) ∧ w'.cell? ⟨go', o' + 4, none⟩ = some (.slice AA lenA capA) ∧ w'.cell? ⟨go', o' + 5, none⟩ = some (.int .i64 pA) ∧
      Hid (PAt u b g1 V w w' l) ∧ Hid (NumB w' gn K)) := by
    refine (HLZ.out w3.drew).mono ?_
    rintro e w' ⟨rfl, hb⟩
    have h1 := HD3.out.below HN1.out hb
    obtain ⟨x0, x1, x2, x3, x4, x5⟩ := HEV.out w' h1.bl
    exact ⟨rfl, (HC4.out w' l h1).1, x0, x1, x2, x3, x4, x5, h1, HND.out.below hb⟩
  have HPCd : Hid (∀ W, PAt u b g1 V w W l → NumB W gn K → Calls Tryz.prog 47 #[.pointer (some ⟨b, 0, none⟩), .agg #[.int .i64 kA, .int .i64 numA, .string SA, .int .i64 opA, .slice AA lenA capA, .int .i64 pA], .bool (decide (lz < K))] W fun e w' => e = .returned (.tuple #[]) ∧
      w'.cell? ⟨g1, 4, none⟩ = some (.slice (some ⟨go', o', none⟩) 2 cap) ∧ w'.cell? ⟨go', o', none⟩ = some (.int .i64 kA) ∧ w'.cell? ⟨go', o' + 1, none⟩ = some (.int .i64 numA) ∧ w'.cell? ⟨go', o' + 2, none⟩ = some (.string SA) ∧ w'.cell? ⟨go', o' + 3, none⟩ = some (.int .i64 opA) ∧ w'.cell? ⟨go', o' + 4, none⟩ = some (.slice AA lenA capA) ∧ w'.cell? ⟨go', o' + 5, none⟩ = some (.int .i64 pA) ∧
      Hid (PR2 u b g1 V w w' l (par c1 e1.tx)) ∧ Hid (NumB w' gn K)) := fun W h hn => by
    rw [HC1.out]
    refine (HPC.out W l h).mono ?_
    rintro e w' ⟨rfl, hq⟩
    have hk := hq.2
    have h1 := h.then HN1.out hq
    obtain ⟨l', h2, h2'⟩ := h1
    obtain ⟨x0, x1, x2, x3, x4, x5⟩ := HEV.out w' h2.bl
    exact ⟨rfl, (HC4.out w' l' h2).1, x0, x1, x2, x3, x4, x5, ⟨l', h2, h2'⟩, hn.wk hk HGN.out⟩
  clear HLZ HPC HD3 HND HA3 HNB
  go_region_held3 (fun W => W.cell? ⟨g1, 4, none⟩ = some (.slice (some ⟨go', o', none⟩) 2 cap) ∧ W.cell? ⟨go', o', none⟩ = some (.int .i64 kA) ∧ W.cell? ⟨go', o' + 1, none⟩ = some (.int .i64 numA) ∧ W.cell? ⟨go', o' + 2, none⟩ = some (.string SA) ∧ W.cell? ⟨go', o' + 3, none⟩ = some (.int .i64 opA) ∧ W.cell? ⟨go', o' + 4, none⟩ = some (.slice AA lenA capA) ∧ W.cell? ⟨go', o' + 5, none⟩ = some (.int .i64 pA)) (go_keep) (first | (go_at_call 44; refine HLZd.out.mono ?_; rintro e w5 ⟨rfl, x4, x0, x1, x2, x3, x5, x6, HP5, HN5⟩) | (go_at_call 47; refine (HPCd.out _ HP5.out HN5.out).mono ?_; rintro e w6 ⟨rfl, t4, t0, t1, t2, t3, t5, t6, HP6, HN6⟩))
  all_goals
    obtain ⟨l6, h6, hg6⟩ := HP6.out
    have HA6 := Lib.hid h6
    have HG6 := Lib.hid hg6
    clear h6 hg6 HP6 HP5 HN5 HLZd HPCd t4 t0 t1 t2 t3 t5 t6 x4 x0 x1 x2 x3 x5 x6 y0 y1 y2 y3 y4 y5 s4
    go_wp2_with fail
    go_loopw [6] (fun iv wr => ∃ (i : Nat) (lc : List UInt8), i ≤ m ∧ iv = .int .i64 (i : Int) ∧ Hid (PAt u b g1 V w wr lc) ∧ Hid (NumB wr gn K) ∧ Hid ((i ≤ q ∧ lc = l6) ∨ (q < i ∧ Pg l6 (32 :: (sl ++ [32])) lc))) (fun iv _ => m - (intOf iv).toNat)
    case atStart => exact ⟨0, l6, Nat.zero_le _, rfl, HA6, HN6, .inl ⟨Nat.zero_le _, rfl⟩⟩
    case round =>
      obtain ⟨i, lc, hi, rfl, HAR, HNR, HST⟩ := hrel
      by_cases him : i < m
      · have HIM := Lib.hid him
        have him' : (i : Int) < m := by omega
        obtain ⟨oi, hoi⟩ : ∃ o, (rowOps K)[i]? = some o := ⟨_, List.getElem?_eq_getElem (by rw [HM.out]; exact him)⟩
        have u1 := HNR.out.cell hoi
        have s3 := (HC4.out wr lc HAR.out).2
        have HOI := Lib.hid hoi
        obtain ⟨d, hd⟩ : ∃ d, (oi.2 == op) = d := ⟨_, rfl⟩
        have HD := Lib.hid hd
        clear hoi
        cases d
        · have HST2 : Hid ((i + 1 ≤ q ∧ lc = l6) ∨ (q < i + 1 ∧ Pg l6 (32 :: (sl ++ [32])) lc)) := by
            rcases HST.out with ⟨h1, h2⟩ | ⟨h1, h2⟩
            · refine .inl ⟨?_, h2⟩
              rcases Nat.lt_or_ge i q with h | h
              · exact h
              · exfalso
                have e : i = q := by omega
                subst e
                have := HOI.out.symm.trans HQQ.out
                injection this with this
                have h5 := beq_eq_false_iff_ne.1 HD.out
                rw [this] at h5
                exact h5 rfl
            · exact .inr ⟨by omega, h2⟩
          go_wp2_with fail
          go_region
          go_wp2_with fail
          go_roundw
          case rel => exact ⟨i + 1, lc, by have := HIM.out; omega, by go_num, HAR.out.drew HN1.out, HNR.out.below (Below.refl _ wr).drew, HST2⟩
          case measure => have := HIM.out; simp [intOf]; omega
        · have hiq : i = q := ops_inj HOI.out HQQ.out (eq_of_beq HD.out)
          subst hiq
          obtain rfl : lc = l6 := by
            rcases HST.out with ⟨_, h⟩ | ⟨h, _⟩
            · exact h
            · omega
          have HAd := Lib.hid (HAR.out.drew HN1.out)
          have HNd : Hid (NumB wr.drew gn K) := HNR.out.below (Below.refl _ wr).drew
          have HRW := Lib.hid (erows_any wr.drew)
          go_wp2_with fail
          go_region
          go_wp2_with fail
          refine HRW.out.mono ?_
          rintro r w7 ⟨rfl, hr, hb⟩
          obtain ⟨gk, y1, y2⟩ := hr K hK6
          rw [HM.out] at y1
          have y3 : w7.cell? ⟨gk, i, none⟩ = some (.string SG) := by rw [y2 i _ HQQ.out]; exact congrArg some HSV.out
          have HA7 := Lib.hid (HAd.out.below HN1.out hb)
          have HN7 := Lib.hid (HNd.out.below hb)
          obtain ⟨gR, hgR⟩ : ∃ g, wr.drew.heap.size + 6 = g := ⟨_, rfl⟩
          have hgR' : wr.heap.size + 6 = gR := hgR
          rw [hgR] at y1
          first | rw [hgR] | rw [hgR']
          obtain ⟨N, hN⟩ : ∃ N : ByteArray, N = ⟨#[32]⟩ ++ SG ++ ⟨#[32]⟩ := ⟨_, rfl⟩
          have hNs : N.size ≤ 100 := by rw [hN, ByteArray.size_append, ByteArray.size_append]; show 1 + SG.size + 1 ≤ 100; omega
          have HNL : Hid (N.data.toList = 32 :: (sl ++ [32])) := by show _ = _; rw [hN, ← HSL.out]; simp
          have HNN := Lib.hid hN.symm
          have e4 : ¬ 9223372036854775807 < 1 + SG.size := by omega
          have e5 : ¬ 9223372036854775807 < 1 + SG.size + 1 := by omega
          have HP := Lib.hid (pput_any w7 u.heap.size b lc N HA7.out.pb HA7.out.le hNs HA7.out.bl.size)
          clear hr hb y2 hgR hgR' hN hNs HAd HNd HRW HAR HNR s3 u1
          go_wp2_with fail
          rw [show ({ data := #[32] } : ByteArray) ++ SG ++ { data := #[32] } = N from HNN.out]
          refine HP.out.mono ?_
          rintro r w8 ⟨rfl, ⟨l8, hp8, hg8⟩, hk8⟩
          have HA8 := Lib.hid (HA7.out.go HN1.out hk8 hp8 hg8.le)
          have HN8 := Lib.hid (HN7.out.wk hk8 HGN.out)
          have HST2 : Hid ((i + 1 ≤ i ∧ l8 = lc) ∨ (i < i + 1 ∧ Pg lc (32 :: (sl ++ [32])) l8)) := .inr ⟨Nat.lt_succ_self i, by rw [← HNL.out]; exact hg8⟩
          clear hp8 hg8 hk8 HP e4 e5 y1 y3
          go_wp2_with fail
          go_roundw
          case rel => exact ⟨i + 1, l8, by have := HIM.out; omega, by go_num, HA8, HN8, HST2⟩
          case measure => have := HIM.out; simp [intOf]; omega
      · have him' : ¬ (i : Int) < m := by omega
        have HPG : Hid (Pg l6 (32 :: (sl ++ [32])) lc) := by
          have hql := (List.getElem?_eq_some_iff.1 HQQ.out).1
          rw [HM.out] at hql
          rcases HST.out with ⟨h, _⟩ | ⟨_, h⟩
          · omega
          · exact h
        clear HST HNR
        have HD3 := Lib.hid (HAR.out.drew HN1.out)
        obtain ⟨s4, _⟩ := HC4.out wr lc HAR.out
        obtain ⟨y0, y1, y2, y3, y4, y5⟩ := HEV'.out wr HAR.out.bl
        simp only at y0 y1 y2 y3 y4 y5
        have HLZd : Hid (Calls Tryz.prog 44 #[.agg #[.int .i64 kB, .int .i64 numB, .string SB, .int .i64 opB, .slice AB lenB capB, .int .i64 pB]] wr.drew fun e w' => e = .returned (.int .i64 (lzz : Int)) ∧
            w'.cell? ⟨g1, 4, none⟩ = some (.slice (some ⟨go', o', none⟩) 2 cap) ∧ w'.cell? ⟨go', o' + 6, none⟩ = some (.int .i64 kB) ∧ w'.cell? ⟨go', o' + 6 + 1, none⟩ = some (.int .i64 numB) ∧ w'.cell? ⟨go', o' + 6 + 2, none⟩ = some (.string SB) ∧ w'.cell? ⟨go', o' + 6 + 3, none⟩ = some (.int .i64 opB) ∧ w'.cell? ⟨go', o' + 6 + 4, none⟩ = some (.slice AB lenB capB) ∧ w'.cell? ⟨go', o' + 6 + 5, none⟩ = some (.int .i64 pB) ∧
            Hid (PAt u b g1 V w w' lc)) := by
          refine (HLZ'.out wr.drew).mono ?_
          rintro e w' ⟨rfl, hb⟩
          have h1 := HD3.out.below HN1.out hb
          obtain ⟨x0, x1, x2, x3, x4, x5⟩ := HEV'.out w' h1.bl
          exact ⟨rfl, (HC4.out w' lc h1).1, x0, x1, x2, x3, x4, x5, h1⟩
        have HPCd : Hid (∀ W, PAt u b g1 V w W lc → Calls Tryz.prog 47 #[.pointer (some ⟨b, 0, none⟩), .agg #[.int .i64 kB, .int .i64 numB, .string SB, .int .i64 opB, .slice AB lenB capB, .int .i64 pB], .bool (decide (lzz ≤ K))] W fun e w' => e = .returned (.tuple #[]) ∧
            w'.cell? ⟨g1, 4, none⟩ = some (.slice (some ⟨go', o', none⟩) 2 cap) ∧ w'.cell? ⟨go', o' + 6, none⟩ = some (.int .i64 kB) ∧ w'.cell? ⟨go', o' + 6 + 1, none⟩ = some (.int .i64 numB) ∧ w'.cell? ⟨go', o' + 6 + 2, none⟩ = some (.string SB) ∧ w'.cell? ⟨go', o' + 6 + 3, none⟩ = some (.int .i64 opB) ∧ w'.cell? ⟨go', o' + 6 + 4, none⟩ = some (.slice AB lenB capB) ∧ w'.cell? ⟨go', o' + 6 + 5, none⟩ = some (.int .i64 pB) ∧
            Hid (PR2 u b g1 V w w' lc (par c2 e2.tx))) := fun W h => by
          rw [HC2.out]
          refine (HPC'.out W lc h).mono ?_
          rintro e w' ⟨rfl, hq⟩
          have h1 := h.then HN1.out hq
          obtain ⟨l', h2, h2'⟩ := h1
          obtain ⟨x0, x1, x2, x3, x4, x5⟩ := HEV'.out w' h2.bl
          exact ⟨rfl, (HC4.out w' l' h2).1, x0, x1, x2, x3, x4, x5, ⟨l', h2, h2'⟩⟩
        clear HD3 HA6 HN6
        go_upto_region 23 with fail
        go_region_held3 (fun W => W.cell? ⟨g1, 4, none⟩ = some (.slice (some ⟨go', o', none⟩) 2 cap) ∧ W.cell? ⟨go', o' + 6, none⟩ = some (.int .i64 kB) ∧ W.cell? ⟨go', o' + 6 + 1, none⟩ = some (.int .i64 numB) ∧ W.cell? ⟨go', o' + 6 + 2, none⟩ = some (.string SB) ∧ W.cell? ⟨go', o' + 6 + 3, none⟩ = some (.int .i64 opB) ∧ W.cell? ⟨go', o' + 6 + 4, none⟩ = some (.slice AB lenB capB) ∧ W.cell? ⟨go', o' + 6 + 5, none⟩ = some (.int .i64 pB)) (go_keep) (first | (go_at_call 44; refine HLZd.out.mono ?_; rintro e w5 ⟨rfl, x4, x0, x1, x2, x3, x5, x6, HP5⟩) | (go_at_call 47; refine (HPCd.out _ HP5.out).mono ?_; rintro e w9 ⟨rfl, t4, t0, t1, t2, t3, t5, t6, HP9⟩))
        all_goals
          go_wp2_with fail
          go_end0
          refine ⟨rfl, ?_⟩
          obtain ⟨l9, h9, hg9⟩ := HP9.out
          rw [HTXX.out]
          exact ⟨⟨l9, h9.pb, HG6.out.trans (HPG.out.trans hg9)⟩, h9.wk⟩

end Go.Proofs.YtlfmciocoijnbaaGreatDoor
