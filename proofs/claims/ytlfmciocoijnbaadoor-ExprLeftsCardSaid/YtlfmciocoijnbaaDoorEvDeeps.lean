/-
  The law ExprDeeps: its walk.
-/
import Derived.Test.YtlfmciocoijnbaaDoorEvForms
import Derived.Test.YtlfmciocoijnbaaDoorXE
namespace Go.Proofs.YtlfmciocoijnbaaDoor
open Go.RowKit

theorem and_mask (a : Int) (m : Nat) (hm : m < 4611686018427387904) : ∃ n : Nat, n ≤ m ∧ bits .and .i64 a (m : Int) = (n : Int) := by
  refine ⟨(BitVec.ofInt 64 a).toNat &&& m, Nat.and_le_right, ?_⟩
  have h2 : (BitVec.ofInt 64 (m : Int)).toNat = m := by
    rw [BitVec.ofInt_natCast, BitVec.toNat_ofNat]; exact Nat.mod_eq_of_lt (by omega)
  have hle : (BitVec.ofInt 64 a).toNat &&& m ≤ m := Nat.and_le_right
  show IntKind.i64.wrap ((BitVec.ofInt 64 a &&& BitVec.ofInt 64 (m : Int)).toNat : Int) = _
  rw [BitVec.toNat_and, h2]
  exact Go.IntWalk.i64_in _ ⟨by omega, by omega⟩

theorem signs_snoc (b : Bool) : ∀ n, signsT b n ++ signT b = signsT b (n + 1)
  | 0 => by show [] ++ signT b = signT b ++ []; simp
  | n + 1 => by
    show signT b ++ signsT b n ++ signT b = signT b ++ signsT b (n + 1)
    rw [List.append_assoc, signs_snoc b n]

theorem rep_snoc' (n : Nat) (c : UInt8) : List.replicate n c ++ [c] = List.replicate (n + 1) c := by rw [List.replicate_succ']

theorem er_one {y : Ex} {op : Int} {x : Ex} (h : y.er = .one op x 0) : ∃ z p, y = .one op z p ∧ z.er = x := by
  cases y <;> simp only [Ex.er, Ex.one.injEq, reduceCtorEq] at h
  obtain ⟨rfl, h2, _⟩ := h
  exact ⟨_, _, rfl, h2⟩

theorem er_var {y : Ex} {s : List UInt8} (h : y.er = .var s 0) : ∃ p, y = .var s p := by
  cases y <;> simp only [Ex.er, Ex.var.injEq, reduceCtorEq] at h
  obtain ⟨rfl, _⟩ := h
  exact ⟨_, rfl⟩

set_option maxHeartbeats 3200000 in
set_option maxRecDepth 20000 in
theorem deeps_law (sg pr kd : Int) (w : World) (_h1 : (Lit.int .i64 sg).wf = true) (_h2 : (Lit.int .i64 pr).wf = true) (_h3 : (Lit.int .i64 kd).wf = true) (hK : KwAt w) (hEr : ErrAt w) (hSg : SgAt w) (hPw : PowTab w) :
    Calls Tryd.prog 7 #[.int .i64 sg, .int .i64 pr, .int .i64 kd] w fun e w' => e = .returned (.bool true) ∧ Below w.heap.size w w' := by
  have HEE : Hid (Ee w) := ⟨⟨hK, hEr⟩, hSg, hPw⟩
  have HS := Lib.hid (small_any w HEE.out)
  obtain ⟨n, hn31, hn⟩ := and_mask sg 31 (by decide)
  obtain ⟨m, hm31, hm⟩ := and_mask pr 31 (by decide)
  obtain ⟨j, hj1, hj⟩ := and_mask kd 1 (by decide)
  obtain ⟨b, hb⟩ : ∃ b, ((j : Int) == 0) = b := ⟨_, rfl⟩
  replace hn : bits .and .i64 sg 31 = (n : Int) := hn
  replace hm : bits .and .i64 pr 31 = (m : Int) := hm
  replace hj : bits .and .i64 kd 1 = (j : Int) := hj
  clear hK hEr hSg hPw _h1 _h2 _h3
  go_enter Tryd.func7, Tryd.ntmps7
  go_wp2_with fail
  refine HS.out.mono ?_
  rintro e w1 ⟨rfl, hb1⟩
  have HB1 := Lib.hid hb1
  have HE1 := Lib.hid (HEE.out.below hb1)
  clear hb1 HS
  go_wp2_with fail
  go_loop [10, 11] (fun sv iv => ∃ (i : Nat) (S : ByteArray), i ≤ n ∧ sv = .string S ∧ iv = .int .i64 (i : Int) ∧ S.size ≤ 2 * i ∧ Hid (S.data.toList = signsT b i)) (fun _ iv => n - (intOf iv).toNat)
  case atStart => exact ⟨0, ⟨#[]⟩, Nat.zero_le _, rfl, rfl, Nat.zero_le _, rfl⟩
  case round =>
    obtain ⟨i, S, hi, rfl, rfl, hSz, HSL⟩ := hrel
    by_cases hin : i < n
    · have hin' : (i : Int) < n := by omega
      have e1 : ¬ 9223372036854775807 < S.size + 2 := by omega
      have e2 : ¬ 9223372036854775807 < S.size + 1 := by omega
      have HIN := Lib.hid hin
      have HSZ := Lib.hid hSz
      cases b
      · go_wp2_with fail
        go_round
        case rel => exact ⟨i + 1, _, by have := HIN.out; omega, rfl, by go_num, by rw [ByteArray.size_append]; show S.size + 1 ≤ _; have := HSZ.out; omega, by
          show _ = _
          rw [← signs_snoc, ← HSL.out]
          simp [signT]⟩
        case measure => have := HIN.out; simp [intOf]; omega
      · go_wp2_with fail
        go_round
        case rel => exact ⟨i + 1, _, by have := HIN.out; omega, rfl, by go_num, by rw [ByteArray.size_append]; show S.size + 2 ≤ _; have := HSZ.out; omega, by
          show _ = _
          rw [← signs_snoc, ← HSL.out]
          simp [signT]⟩
        case measure => have := HIN.out; simp [intOf]; omega
    · have hin' : ¬ (i : Int) < n := by omega
      obtain rfl : n = i := by omega
      clear hin hi
      obtain ⟨X, hX⟩ : ∃ X, signsT b n = X := ⟨_, rfl⟩
      have HX := Lib.hid hX
      rw [hX] at HSL
      clear hX
      go_wp2_with fail
      go_loop [10, 12] (fun sv iv => ∃ (i : Nat) (S : ByteArray), i ≤ m ∧ sv = .string S ∧ iv = .int .i64 (i : Int) ∧ S.size ≤ 2 * n + i ∧ Hid (S.data.toList = X ++ List.replicate i 40)) (fun _ iv => m - (intOf iv).toNat)
      case atStart => exact ⟨0, S, Nat.zero_le _, rfl, rfl, hSz, by show _ = _; rw [HSL.out]; simp⟩
      case round =>
        obtain ⟨i, S, hi, rfl, rfl, hSz, HSL⟩ := hrel
        by_cases him : i < m
        · have him' : (i : Int) < m := by omega
          have e1 : ¬ 9223372036854775807 < S.size + 1 := by omega
          have HIN := Lib.hid him
          have HSZ := Lib.hid hSz
          go_wp2_with fail
          go_round
          case rel => exact ⟨i + 1, _, by have := HIN.out; omega, rfl, by go_num, by rw [ByteArray.size_append]; show S.size + 1 ≤ _; have := HSZ.out; omega, by
            show _ = _
            rw [← rep_snoc', ← List.append_assoc, ← HSL.out]
            simp⟩
          case measure => have := HIN.out; simp [intOf]; omega
        · have him' : ¬ (i : Int) < m := by omega
          obtain rfl : m = i := by omega
          clear him hi
          have e1 : ¬ 9223372036854775807 < S.size + 1 := by omega
          have hS2 : (S ++ (⟨#[120]⟩ : ByteArray)).size ≤ 2 * n + m + 1 := by rw [ByteArray.size_append]; show S.size + 1 ≤ _; omega
          have HS2 := Lib.hid hS2
          have HSL2 : Hid ((S ++ (⟨#[120]⟩ : ByteArray)).data.toList = X ++ List.replicate m 40 ++ [120]) := by show _ = _; rw [← HSL.out]; simp
          clear hS2
          go_wp2_with fail
          go_loop [10, 13] (fun sv iv => ∃ (i : Nat) (S : ByteArray), i ≤ m ∧ sv = .string S ∧ iv = .int .i64 (i : Int) ∧ S.size ≤ 2 * n + m + 1 + i ∧ Hid (S.data.toList = X ++ List.replicate m 40 ++ [120] ++ List.replicate i 41)) (fun _ iv => m - (intOf iv).toNat)
          case atStart => exact ⟨0, _, Nat.zero_le _, rfl, rfl, HS2.out, by show _ = _; rw [HSL2.out]; simp⟩
          case round =>
            obtain ⟨i, S, hi, rfl, rfl, hSz, HSL⟩ := hrel
            by_cases him : i < m
            · have him' : (i : Int) < m := by omega
              have e1 : ¬ 9223372036854775807 < S.size + 1 := by omega
              have HIN := Lib.hid him
              have HSZ := Lib.hid hSz
              go_wp2_with fail
              go_round
              case rel => exact ⟨i + 1, _, by have := HIN.out; omega, rfl, by go_num, by rw [ByteArray.size_append]; show S.size + 1 ≤ _; have := HSZ.out; omega, by
                show _ = _
                rw [← rep_snoc', ← List.append_assoc, ← HSL.out]
                simp⟩
              case measure => have := HIN.out; simp [intOf]; omega
            · have him' : ¬ (i : Int) < m := by omega
              obtain rfl : m = i := by omega
              clear him hi
              have HSP : Hid (S.data.toList = signsT b n ++ pairsT m) := by
                show _ = _
                rw [HSL.out, HX.out]
                unfold pairsT
                simp
              obtain ⟨⟨R, c, p⟩, hR⟩ : ∃ R, rdR S.data.toList = R := ⟨_, rfl⟩
              have HRR := Lib.hid hR
              have HDP := Lib.hid (rd_deep b n m hn31 hm31)
              rw [← HSP.out, hR] at HDP
              have HRD := Lib.hid (read_any w1 S HE1.out.vr HE1.out.vs _ HRR.out)
              simp only [ftV] at HRD
              clear hR
              go_wp2_with fail
              refine HRD.out.mono ?_
              rintro e w2 ⟨v, rfl, hv, hbb⟩
              obtain ⟨W, g1, g2, hW, hg1, hg2, HXB, HF, HB⟩ := pair_new w2 v c p
              have HBB : Hid (Below w.heap.size w W) := (HB1.out.trans (hbb.mono HB1.out.size)).trans (HB.out.mono (by have := HB1.out.size; have := hbb.size; omega))
              have HRDV : Hid (RD w2 w1.heap.size v R) := hv
              have HG1 : Hid (g1 = w2.heap.size ∧ g2 = g1 + 1 ∧ w1.heap.size ≤ g1 ∧ w.heap.size ≤ w1.heap.size) := ⟨hg1, by omega, by have := hbb.size; omega, HB1.out.size⟩
              have hvv : v.val = .agg #[.int .i64 v.kind, .int .i64 v.num, .string v.name, .int .i64 v.op, .slice v.A v.len v.cap, .int .i64 v.p] := rfl
              rw [hvv]
              clear HRD hv hbb hvv hSz e1
              go_upto_region 21 with fail
              rw [← hW, ← hg2, ← hg1]
              clear hW hg1 hg2
              have k0 := HF.out.c0
              by_cases h20 : 20 < n + m
              · have h20' : (20 : Int) < (n : Int) + m := by omega
                obtain ⟨pp, hp⟩ := HDP.out.2 h20
                simp only [Prod.mk.injEq] at hp
                obtain ⟨rfl, rfl, rfl⟩ := hp
                clear h20
                go_wp2_with fail
                go_ret
                exact ⟨rfl, HBB.out⟩
              have h20' : ¬ (20 : Int) < (n : Int) + m := by omega
              obtain ⟨y, hy, hye⟩ := HDP.out.1 (by omega)
              simp only [Prod.mk.injEq] at hy
              obtain ⟨rfl, rfl, rfl⟩ := hy
              have HYE := Lib.hid hye
              have HN20 : Hid (n ≤ 20) := by show n ≤ 20; omega
              have HGV : Hid (GV W w1.heap.size g1 y.gx v) := by
                have h1 : GV w2 w1.heap.size w2.heap.size y.gx v := HRDV.out
                show GV W w1.heap.size g1 y.gx v
                rw [HG1.out.1]
                exact h1.below HB.out (Nat.le_refl _)
              clear hye h20 HDP HRDV HB
              go_wp2_with fail
              go_loopw [16] (fun dv wr => ∃ (d : Nat) (yd : Ex) (u : EV), d ≤ n ∧ dv = .int .i64 (d : Int) ∧ Hid (yd.er = ones (if b = true then 14 else 15) (n - d) (.var [120] 0)) ∧ Hid (GV W w1.heap.size g1 yd.gx u) ∧ Hid (XpB wr g1 u) ∧ Hid (FtB wr g2 (.int .i64 0) (.int .i64 0)) ∧ Hid (∀ k, k < g1 → wr.heap[k]? = W.heap[k]?) ∧ Hid (Below w.heap.size w wr)) (fun dv _ => n - (intOf dv).toNat)
              case atStart => exact ⟨0, y, v, Nat.zero_le _, rfl, HYE, HGV, HXB, HF, fun _ _ => rfl, HBB⟩
              case round =>
                obtain ⟨d, yd, u, hd, rfl, HYD, HGD, HXD, HFD, HSAME, HBD⟩ := hrel
                have HDN := Lib.hid hd
                have z0 := HXD.out.c0
                have z1 := HXD.out.c1
                have z2 := HXD.out.c2
                have z3 := HXD.out.c3
                have z4 := HXD.out.c4
                have z5 := HXD.out.c5
                obtain ⟨a1, _, a3, _, _, a6, _, _, a9⟩ := HGD.out.out
                by_cases hdn : d < n
                · have HDL := Lib.hid hdn
                  obtain ⟨q, hq⟩ : ∃ q, n - d = q + 1 := ⟨n - d - 1, by omega⟩
                  have hyd := HYD.out
                  rw [hq] at hyd
                  obtain ⟨z, pz, rfl, hze⟩ := er_one (show yd.er = .one _ (ones _ q (.var [120] 0)) 0 from hyd)
                  replace a1 : u.kind = 4 := a1
                  replace a6 : u.len = 1 := a6
                  obtain ⟨go, o, v', hAe, hlo, hgo, hev, hgz⟩ := a9.get 0 z.gx rfl
                  have eo : o + (0 + 0) * 6 = o := by omega
                  rw [eo] at hev
                  obtain ⟨y0, y1, y2, y3, y4, y5⟩ := hev.same (HSAME.out go hgo)
                  have HGZ := Lib.hid hgz
                  have HZE : Hid (z.er = ones (if b = true then 14 else 15) (n - (d + 1)) (.var [120] 0)) := by show _ = _; rw [hze]; congr 1; omega
                  have f0 := HXD.out.fr 0
                  have f1 := HXD.out.fr 1
                  have f2 := HXD.out.fr 2
                  have f3 := HXD.out.fr 3
                  have f4 := HXD.out.fr 4
                  have f5 := HXD.out.fr 5
                  have hd40 : (d : Int) < 40 := by have := HN20.out; omega
                  have hne : ¬ go = g1 := by omega
                  obtain ⟨k, num, S', op, A, len, cap, pp⟩ := u
                  simp only at a1 a6 hAe z0 z1 z2 z3 z4 z5
                  subst a1 a6 hAe
                  clear hd hdn hq hyd hev hgz a3 a9 hze eo
                  obtain ⟨W9, hW9⟩ : ∃ W9, W9 = six wr g1 v' := ⟨_, rfl⟩
                  have hmv : Mv g1 wr W9 := by rw [hW9]; exact six_mv wr g1 v'
                  have HX9 : Hid (XpB W9 g1 v') := by rw [hW9]; exact HXD.out.all v'
                  have HF9 := Lib.hid (HFD.out.put hmv (by have := HG1.out.2.1; omega))
                  have HS9 : Hid (∀ k, k < g1 → W9.heap[k]? = W.heap[k]?) := fun k hk => (hmv.block (Nat.lt_trans hk HXD.out.lt) (by omega)).trans (HSAME.out k hk)
                  have HB9 : Hid (Below w.heap.size w W9) := hmv.belowB HBD.out (by have := HG1.out; omega) HBD.out.size
                  unfold six at hW9
                  clear hmv HFD HSAME HBD
                  go_wp2_with fail
                  rw [← hW9]
                  clear hW9
                  go_roundw
                  case rel => exact ⟨d + 1, z, v', HDL.out, by go_num, HZE, HGZ, HX9, HF9, HS9, HB9⟩
                  case measure => have := HDL.out; simp [intOf]; omega
                · obtain rfl : n = d := by omega
                  have hyd := HYD.out
                  rw [Nat.sub_self] at hyd
                  obtain ⟨pz, rfl⟩ := er_var (show yd.er = .var [120] 0 from hyd)
                  replace a1 : u.kind = 2 := a1
                  replace a3 : u.name.data.toList = [120] := a3
                  have k0 := HFD.out.c0
                  have q1 : ((n : Int) == n) = true := beq_self_eq_true _
                  obtain ⟨k, num, S', op, A, len, cap, pp⟩ := u
                  simp only at a1 a3 z0 z1 z2 z3 z4 z5
                  have q2 : (S'.toList == [120]) = true := by rw [Lib.toList_data, a3]; rfl
                  subst a1
                  clear hd hdn hyd a6 a9 a3
                  go_wp2_with fail
                  go_ret
                  exact ⟨rfl, HBD.out⟩

end Go.Proofs.YtlfmciocoijnbaaDoor
