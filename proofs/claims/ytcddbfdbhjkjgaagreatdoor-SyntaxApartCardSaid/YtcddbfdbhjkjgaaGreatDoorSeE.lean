/-
  The document's Same over nodes.
-/
import Derived.Test.YtcddbfdbhjkjgaaGreatDoorSeD
namespace Go.Proofs.YtcddbfdbhjkjgaaGreatDoor
open Go.RowKit

def SN (x : SyNode) : Prop := ∀ (y : SyNode) (pl o o' : Bool) (w : World) (xs ys : List Value) (F F' : List Nat), DvsAt w (dvNode o x) xs F → DvsAt w (dvNode o' y) ys F' → nG pl x y →
  Calls Tryz.prog 22 #[.agg xs.toArray, .agg ys.toArray, .bool pl] w fun e w' => e = .returned (.bool true) ∧ Below w.heap.size w w'

set_option maxHeartbeats 6400000 in
set_option maxRecDepth 20000 in
theorem samenode_step (k p : Int) (nm ini dft : List UInt8) (en le : List SyAct) (mo : List SyMove) (ks : List SyNode) (ih : ∀ (i : Nat) (a : SyNode), ks[i]? = some a → SN a) : SN (.mk k nm ini dft en le mo ks p) := by
  intro y pl o o' w xs ys F F' h h' hg
  obtain ⟨k', nm', ini', dft', qen, qle, qmo, qks, qp⟩ := y
  unfold nG at hg
  obtain ⟨rfl, rfl, rfl, rfl, s5, s6, s7, s8, s9⟩ := hg
  obtain ⟨A1, A2, A3, A4, Ac1, Ac2, Ac3, Ac4, F1, F2, F3, F4, rfl, a1, a2, a3, a4⟩ := node_vals h
  obtain ⟨B1, B2, B3, B4, Bc1, Bc2, Bc3, Bc4, G1, G2, G3, G4, rfl, b1, b2, b3, b4⟩ := node_vals h'
  obtain ⟨N, hN⟩ := str_of nm
  obtain ⟨I, hI⟩ := str_of ini
  obtain ⟨D, hD⟩ := str_of dft
  rw [hN, hI, hD]
  have l5 := s5.1
  have l6 := s6.1
  have l7 := s7.1
  have l8 := nsG_len s8
  obtain ⟨g1, hg1⟩ : ∃ g, g = w.heap.size := ⟨_, rfl⟩
  obtain ⟨g2, hg2⟩ : ∃ g, g = w.heap.size + 1 := ⟨_, rfl⟩
  obtain ⟨Wa, hWa⟩ : ∃ W, W = w.alloc (.cells #[.int .i64 k, .string N, .string I, .string D, .slice A1 en.length Ac1, .slice A2 le.length Ac2, .slice A3 mo.length Ac3, .slice A4 ks.length Ac4, .int .i64 p] 28) := ⟨_, rfl⟩
  obtain ⟨W0, hW0⟩ : ∃ W, W = Wa.alloc (.cells #[.int .i64 k, .string N, .string I, .string D, .slice B1 qen.length Bc1, .slice B2 qle.length Bc2, .slice B3 qmo.length Bc3, .slice B4 qks.length Bc4, .int .i64 qp] 28) := ⟨_, rfl⟩
  have hsa : Wa.heap.size = w.heap.size + 1 := by rw [hWa]; simp
  have HX : Hid (CB W0 g1 28 [.int .i64 k, .string N, .string I, .string D, .slice A1 en.length Ac1, .slice A2 le.length Ac2, .slice A3 mo.length Ac3, .slice A4 ks.length Ac4, .int .i64 p]) := by rw [hW0, hWa, hg1]; exact (CB.new w _ [.int .i64 k, .string N, .string I, .string D, .slice A1 en.length Ac1, .slice A2 le.length Ac2, .slice A3 mo.length Ac3, .slice A4 ks.length Ac4, .int .i64 p]).alloc _
  have HY : Hid (CB W0 g2 28 [.int .i64 k, .string N, .string I, .string D, .slice B1 qen.length Bc1, .slice B2 qle.length Bc2, .slice B3 qmo.length Bc3, .slice B4 qks.length Bc4, .int .i64 qp]) := by
    have := CB.new Wa 28 [.int .i64 k, .string N, .string I, .string D, .slice B1 qen.length Bc1, .slice B2 qle.length Bc2, .slice B3 qmo.length Bc3, .slice B4 qks.length Bc4, .int .i64 qp]
    rw [hsa, ← hg2] at this
    rw [hW0]
    exact this
  have HB : Hid (Below w.heap.size w W0) := by rw [hW0, hWa]; exact ((Below.refl _ w).alloc (Nat.le_refl _) _).alloc (by simp) _
  have HC1 := Lib.hid (sameacts_any W0 pl o o' en qen _ _ _ _ (a1.below HB.out) (b1.below HB.out) s5)
  have HC2 := Lib.hid (fun (W : World) (hb : Below w.heap.size w W) => sameacts_any W pl o o' le qle _ _ _ _ (a2.below hb) (b2.below hb) s6)
  have HMO := Lib.hid (And.intro a3 (And.intro b3 s7.2))
  have HKS := Lib.hid (And.intro a4 (And.intro b4 s8))
  have HIH := Lib.hid ih
  have HMX : Hid (mo.length ≤ 9223372036854775807 ∧ ks.length ≤ 9223372036854775807) := by
    obtain ⟨_, _, e1, f1, f2⟩ := DvAt.slice (show DvAt w (.row 56 13 mo.length _) _ _ from a3)
    obtain ⟨_, _, e2, f3, f4⟩ := DvAt.slice (show DvAt w (.row 28 9 ks.length _) _ _ from a4)
    have : maxLen ≤ 9223372036854775807 := by decide
    exact ⟨by omega, by omega⟩
  have HL7 := Lib.hid l7
  have HL8 := Lib.hid l8
  have e7 : ((mo.length : Int) != qmo.length) = false := by rw [l7]; simp
  have e8 : ((ks.length : Int) != qks.length) = false := by rw [l8]; simp
  have S9 := Lib.hid s9
  have x0 := HX.out.c 0 rfl
  have x1 := HX.out.c 1 rfl
  have x2 := HX.out.c 2 rfl
  have x3 := HX.out.c 3 rfl
  have x4 := HX.out.c 4 rfl
  have x6 := HX.out.c 6 rfl
  have x7 := HX.out.c 7 rfl
  have x8 := HX.out.c 8 rfl
  have y0 := HY.out.c 0 rfl
  have y1 := HY.out.c 1 rfl
  have y2 := HY.out.c 2 rfl
  have y3 := HY.out.c 3 rfl
  have y4 := HY.out.c 4 rfl
  have y6 := HY.out.c 6 rfl
  have y7 := HY.out.c 7 rfl
  have y8 := HY.out.c 8 rfl
  clear h h' s5 s6 s7 s8 s9 l5 l6 l7 l8 a1 a2 a3 a4 b1 b2 b3 b4 hN hI hD hsa ih
  go_enter Tryz.func22, Tryz.ntmps22
  go_upto_region 1 with fail
  rw [← hWa, ← hW0, ← hg2, ← hg1]
  clear hWa hW0 hg2 hg1
  go_cut [66] from 13 to 66 (fun s66 wr => s66 = .bool false ∧ W0 = wr)
  case first =>
    cases pl
    · go_wp2_with fail
      go_meet
      exact ⟨rfl, rfl⟩
    · have q5 : (p != qp) = false := by rw [S9.out rfl]; simp
      go_wp2_with fail
      go_meet
      exact ⟨rfl, rfl⟩
  case rest =>
  obtain ⟨rfl, rfl⟩ := hcut
  clear x0 x1 x2 x3 x6 x7 x8 y0 y1 y2 y3 y6 y7 y8 e7 e8
  go_wp2_with fail
  refine HC1.out.mono ?_
  rintro e w1 ⟨rfl, hb⟩
  have HX1 := Lib.hid (HX.out.below hb)
  have HY1 := Lib.hid (HY.out.below hb)
  have HB1 := Lib.hid (HB.out.trans (hb.mono HB.out.size))
  have HCA := Lib.hid (HC2.out w1 HB1.out)
  have x5 := HX1.out.c 5 rfl
  have y5 := HY1.out.c 5 rfl
  clear hb HC1 HC2 HX HY HB x4 y4
  go_wp2_with fail
  refine HCA.out.mono ?_
  rintro e w2 ⟨rfl, hb⟩
  have HX2 := Lib.hid (HX1.out.below hb)
  have HY2 := Lib.hid (HY1.out.below hb)
  have HB2 := Lib.hid (HB1.out.trans (hb.mono HB1.out.size))
  clear hb HCA HX1 HY1 HB1 x5 y5
  go_wp2_with fail
  go_loopw [9] (fun iv wr => ∃ i : Nat, i ≤ mo.length ∧ iv = .int .i64 (i : Int) ∧ Hid (Below w.heap.size w wr) ∧ Hid (CB wr g1 28 [.int .i64 k, .string N, .string I, .string D, .slice A1 en.length Ac1, .slice A2 le.length Ac2, .slice A3 mo.length Ac3, .slice A4 ks.length Ac4, .int .i64 p]) ∧ Hid (CB wr g2 28 [.int .i64 k, .string N, .string I, .string D, .slice B1 qen.length Bc1, .slice B2 qle.length Bc2, .slice B3 qmo.length Bc3, .slice B4 qks.length Bc4, .int .i64 qp])) (fun iv _ => mo.length - (intOf iv).toNat)
  case atStart => exact ⟨0, Nat.zero_le _, rfl, HB2, HX2, HY2⟩
  case round =>
    obtain ⟨i, hi, rfl, HBW, HXW, HYW⟩ := hrel
    have x6 := HXW.out.c 6 rfl
    have y6 := HYW.out.c 6 rfl
    by_cases him : i < mo.length
    · have him' : (i : Int) < mo.length := by omega
      have HIM := Lib.hid him
      have him2 : (i : Int) < qmo.length := by rw [← HL7.out]; exact him'
      have him3 : i < qmo.length := by rw [← HL7.out]; exact him
      obtain ⟨a, ha⟩ : ∃ a, mo[i]? = some a := ⟨_, List.getElem?_eq_getElem him⟩
      obtain ⟨b, hb⟩ : ∃ b, qmo[i]? = some b := ⟨_, List.getElem?_eq_getElem (by rw [← HL7.out]; exact him)⟩
      have hab := HMO.out.2.2 i a b ha hb
      obtain ⟨g, c, ys, Fy, hv, _, _, hg, hy, _, hyc⟩ := row_elem (f := dvMove o) (k := 13) (fun _ => rfl) (show DvAt w (.row 56 13 mo.length (mo.flatMap (dvMove o))) _ _ from HMO.out.1) ha
      obtain ⟨g', c', zs, Fz, hv', _, _, hg', hz, _, hzc⟩ := row_elem (f := dvMove o') (k := 13) (fun _ => rfl) (show DvAt w (.row 56 13 qmo.length (qmo.flatMap (dvMove o'))) _ _ from HMO.out.2.1) hb
      obtain rfl : A3 = some ⟨g, 0, none⟩ := by injection hv
      obtain rfl : B3 = some ⟨g', 0, none⟩ := by injection hv'
      obtain ⟨me, va, vt, Fa, Ft, rfl, _, ma, mt⟩ := move_vals hy
      obtain ⟨qe, ua, ut, Ga, Gt, rfl, _, qa, qt⟩ := move_vals hz
      obtain ⟨mA, mc, rfl, _⟩ := acts_slice ma
      obtain ⟨qA, qc, rfl, _⟩ := acts_slice qa
      obtain ⟨mT, md, rfl, _⟩ := strs_at mt
      obtain ⟨qT, qd, rfl, _⟩ := strs_at qt
      have HCM := Lib.hid (fun (W : World) (hbw : Below w.heap.size w W) => samemove_any W pl o o' a b _ _ _ _ (hy.below hbw) (hz.below hbw) hab)
      obtain ⟨EX, hEX⟩ := str_of a.event
      obtain ⟨EY, hEY⟩ := str_of b.event
      rw [hEX, hEY] at HCM
      rw [hEX] at hyc
      rw [hEY] at hzc
      have kb : ∀ {p : Addr} {u : Value}, w.cell? p = some u → wr.cell? p = some u := fun hc => by rw [World.cell?_of_block (HBW.out.block _ (World.block_lt_of_cell? w _ hc))]; exact hc
      have u0 : wr.cell? ⟨g, i * 13, none⟩ = _ := kb (hyc 0 _ rfl)
      have v0 : wr.cell? ⟨g', i * 13, none⟩ = _ := kb (hzc 0 _ rfl)
      have u1 := kb (hyc 1 _ rfl)
      have v1 := kb (hzc 1 _ rfl)
      have u2 := kb (hyc 2 _ rfl)
      have v2 := kb (hzc 2 _ rfl)
      have u3 := kb (hyc 3 _ rfl)
      have v3 := kb (hzc 3 _ rfl)
      have u4 := kb (hyc 4 _ rfl)
      have v4 := kb (hzc 4 _ rfl)
      have u5 := kb (hyc 5 _ rfl)
      have v5 := kb (hzc 5 _ rfl)
      have u6 := kb (hyc 6 _ rfl)
      have v6 := kb (hzc 6 _ rfl)
      have u7 := kb (hyc 7 _ rfl)
      have v7 := kb (hzc 7 _ rfl)
      have u8 := kb (hyc 8 _ rfl)
      have v8 := kb (hzc 8 _ rfl)
      have u9 := kb (hyc 9 _ rfl)
      have v9 := kb (hzc 9 _ rfl)
      have u10 := kb (hyc 10 _ rfl)
      have v10 := kb (hzc 10 _ rfl)
      have u11 := kb (hyc 11 _ rfl)
      have v11 := kb (hzc 11 _ rfl)
      have u12 := kb (hyc 12 _ rfl)
      have v12 := kb (hzc 12 _ rfl)
      clear kb hyc hzc ma mt qa qt hy hz hab ha hb hv hv' hEX hEY hg hg'
      go_wp2_with fail
      go_still_tail 11, (by kernel_rfl)
      change wpList _ _ _ _ _ (World.drew wr)
      obtain ⟨W1, hW1⟩ : ∃ W1, W1 = wr.drew := ⟨_, rfl⟩
      have HBW1 : Hid (Below w.heap.size w W1) := by rw [hW1]; exact HBW.out.trans (Below.refl _ wr).drew
      have HXW1 : Hid (CB W1 g1 28 [.int .i64 k, .string N, .string I, .string D, .slice A1 en.length Ac1, .slice A2 le.length Ac2, .slice (some ⟨g, 0, none⟩) mo.length Ac3, .slice A4 ks.length Ac4, .int .i64 p]) := by rw [hW1]; exact HXW.out
      have HYW1 : Hid (CB W1 g2 28 [.int .i64 k, .string N, .string I, .string D, .slice B1 qen.length Bc1, .slice B2 qle.length Bc2, .slice (some ⟨g', 0, none⟩) qmo.length Bc3, .slice B4 qks.length Bc4, .int .i64 qp]) := by rw [hW1]; exact HYW.out
      have HCC := Lib.hid (HCM.out W1 HBW1.out)
      rw [← hW1]
      clear hW1 HCM HBW HXW HYW x6 y6 u0 v0 u1 v1 u2 v2 u3 v3 u4 v4 u5 v5 u6 v6 u7 v7 u8 v8 u9 v9 u10 v10 u11 v11 u12 v12
      go_wp2_with fail
      refine HCC.out.mono ?_
      rintro e w4 ⟨rfl, hb⟩
      have HBW4 := Lib.hid (HBW1.out.trans (hb.mono HBW1.out.size))
      have HXW4 := Lib.hid (HXW1.out.below hb)
      have HYW4 := Lib.hid (HYW1.out.below hb)
      clear hb HCC HBW1 HXW1 HYW1
      go_wp2_with fail
      go_roundw
      case rel => exact ⟨i + 1, by have := HIM.out; omega, by have h1 := HIM.out; have h2 := HMX.out; rw [Go.IntWalk.wrap64_in _ ⟨by omega, by omega⟩]; rfl, HBW4, HXW4, HYW4⟩
      case measure => have h1 := HIM.out; have h2 := HMX.out; rw [Go.IntWalk.wrap64_in _ ⟨by omega, by omega⟩]; simp [intOf]; omega
    have him' : ¬ (i : Int) < mo.length := by omega
    clear hi him
    go_wp2_with fail
    clear x6 y6
    go_loopw [11] (fun iv wr => ∃ i : Nat, i ≤ ks.length ∧ iv = .int .i64 (i : Int) ∧ Hid (Below w.heap.size w wr) ∧ Hid (CB wr g1 28 [.int .i64 k, .string N, .string I, .string D, .slice A1 en.length Ac1, .slice A2 le.length Ac2, .slice A3 mo.length Ac3, .slice A4 ks.length Ac4, .int .i64 p]) ∧ Hid (CB wr g2 28 [.int .i64 k, .string N, .string I, .string D, .slice B1 qen.length Bc1, .slice B2 qle.length Bc2, .slice B3 qmo.length Bc3, .slice B4 qks.length Bc4, .int .i64 qp])) (fun iv _ => ks.length - (intOf iv).toNat)
    case atStart => exact ⟨0, Nat.zero_le _, rfl, HBW, HXW, HYW⟩
    case round =>
      obtain ⟨i, hi, rfl, HBW, HXW, HYW⟩ := hrel
      have x7 := HXW.out.c 7 rfl
      have y7 := HYW.out.c 7 rfl
      by_cases him : i < ks.length
      · have him' : (i : Int) < ks.length := by omega
        have HIM := Lib.hid him
        have him2 : (i : Int) < qks.length := by rw [← HL8.out]; exact him'
        have him3 : i < qks.length := by rw [← HL8.out]; exact him
        obtain ⟨a, ha⟩ : ∃ a, ks[i]? = some a := ⟨_, List.getElem?_eq_getElem him⟩
        obtain ⟨b, hb⟩ : ∃ b, qks[i]? = some b := ⟨_, List.getElem?_eq_getElem him3⟩
        have hab := nsG_get HKS.out.2.2 i a b ha hb
        have hih := HIH.out i a ha
        have nl : ∀ (o : Bool) (a : SyNode), (dvNode o a).length = 9 := fun o a => by cases a; rw [dvNode_mk]; rfl
        have hk1 := HKS.out.1
        have hk2 := HKS.out.2.1
        unfold dvKids at hk1 hk2
        rw [dvNodes_flat] at hk1 hk2
        obtain ⟨g, c, ys, Fy, hv, _, _, hg, hy, _, hyc⟩ := row_elem (f := dvNode o) (k := 9) (nl o) hk1 ha
        obtain ⟨g', c', zs, Fz, hv', _, _, hg', hz, _, hzc⟩ := row_elem (f := dvNode o') (k := 9) (nl o') hk2 hb
        obtain rfl : A4 = some ⟨g, 0, none⟩ := by injection hv
        obtain rfl : B4 = some ⟨g', 0, none⟩ := by injection hv'
        have HCM0 := fun (W : World) (hbw : Below w.heap.size w W) => hih b pl o o' W _ _ _ _ (hy.below hbw) (hz.below hbw) hab
        obtain ⟨ka, na, ia, da, ea, la, ma, sa, pa⟩ := a
        obtain ⟨kb', nb, ib, db, eb, lb, mb, sb, pb⟩ := b
        obtain ⟨E1, E2, E3, E4, Ec1, Ec2, Ec3, Ec4, _, _, _, _, rfl, _⟩ := node_vals hy
        obtain ⟨D1, D2, D3, D4, Dc1, Dc2, Dc3, Dc4, _, _, _, _, rfl, _⟩ := node_vals hz
        obtain ⟨P1, hP1⟩ := str_of na
        obtain ⟨P2, hP2⟩ := str_of ia
        obtain ⟨P3, hP3⟩ := str_of da
        obtain ⟨R1, hR1⟩ := str_of nb
        obtain ⟨R2, hR2⟩ := str_of ib
        obtain ⟨R3, hR3⟩ := str_of db
        rw [hP1, hP2, hP3, hR1, hR2, hR3] at HCM0
        rw [hP1, hP2, hP3] at hyc
        rw [hR1, hR2, hR3] at hzc
        have HCM := Lib.hid HCM0
        have kb : ∀ {p : Addr} {u : Value}, w.cell? p = some u → wr.cell? p = some u := fun hc => by rw [World.cell?_of_block (HBW.out.block _ (World.block_lt_of_cell? w _ hc))]; exact hc
        have u0 : wr.cell? ⟨g, i * 9, none⟩ = _ := kb (hyc 0 _ rfl)
        have v0 : wr.cell? ⟨g', i * 9, none⟩ = _ := kb (hzc 0 _ rfl)
        have u1 := kb (hyc 1 _ rfl)
        have v1 := kb (hzc 1 _ rfl)
        have u2 := kb (hyc 2 _ rfl)
        have v2 := kb (hzc 2 _ rfl)
        have u3 := kb (hyc 3 _ rfl)
        have v3 := kb (hzc 3 _ rfl)
        have u4 := kb (hyc 4 _ rfl)
        have v4 := kb (hzc 4 _ rfl)
        have u5 := kb (hyc 5 _ rfl)
        have v5 := kb (hzc 5 _ rfl)
        have u6 := kb (hyc 6 _ rfl)
        have v6 := kb (hzc 6 _ rfl)
        have u7 := kb (hyc 7 _ rfl)
        have v7 := kb (hzc 7 _ rfl)
        have u8 := kb (hyc 8 _ rfl)
        have v8 := kb (hzc 8 _ rfl)
        clear kb hyc hzc hy hz hab ha hb hv hv' hg hg' hk1 hk2 hih nl HCM0 hP1 hP2 hP3 hR1 hR2 hR3
        go_wp2_with fail
        go_still_tail 11, (by kernel_rfl)
        change wpList _ _ _ _ _ (World.drew wr)
        obtain ⟨W1, hW1⟩ : ∃ W1, W1 = wr.drew := ⟨_, rfl⟩
        have HBW1 : Hid (Below w.heap.size w W1) := by rw [hW1]; exact HBW.out.trans (Below.refl _ wr).drew
        have HXW1 : Hid (CB W1 g1 28 [.int .i64 k, .string N, .string I, .string D, .slice A1 en.length Ac1, .slice A2 le.length Ac2, .slice A3 mo.length Ac3, .slice (some ⟨g, 0, none⟩) ks.length Ac4, .int .i64 p]) := by rw [hW1]; exact HXW.out
        have HYW1 : Hid (CB W1 g2 28 [.int .i64 k, .string N, .string I, .string D, .slice B1 qen.length Bc1, .slice B2 qle.length Bc2, .slice B3 qmo.length Bc3, .slice (some ⟨g', 0, none⟩) qks.length Bc4, .int .i64 qp]) := by rw [hW1]; exact HYW.out
        have HCC := Lib.hid (HCM.out W1 HBW1.out)
        rw [← hW1]
        clear hW1 HCM HBW HXW HYW x7 y7 u0 v0 u1 v1 u2 v2 u3 v3 u4 v4 u5 v5 u6 v6 u7 v7 u8 v8
        go_wp2_with fail
        refine HCC.out.mono ?_
        rintro e w4 ⟨rfl, hb⟩
        have HBW4 := Lib.hid (HBW1.out.trans (hb.mono HBW1.out.size))
        have HXW4 := Lib.hid (HXW1.out.below hb)
        have HYW4 := Lib.hid (HYW1.out.below hb)
        clear hb HCC HBW1 HXW1 HYW1
        go_wp2_with fail
        go_roundw
        case rel => exact ⟨i + 1, by have := HIM.out; omega, by have h1 := HIM.out; have h2 := HMX.out; rw [Go.IntWalk.wrap64_in _ ⟨by omega, by omega⟩]; rfl, HBW4, HXW4, HYW4⟩
        case measure => have h1 := HIM.out; have h2 := HMX.out; rw [Go.IntWalk.wrap64_in _ ⟨by omega, by omega⟩]; simp [intOf]; omega
      · have him' : ¬ (i : Int) < ks.length := by omega
        go_wp2_with fail
        go_ret
        exact ⟨rfl, HBW.out⟩

end Go.Proofs.YtcddbfdbhjkjgaaGreatDoor
