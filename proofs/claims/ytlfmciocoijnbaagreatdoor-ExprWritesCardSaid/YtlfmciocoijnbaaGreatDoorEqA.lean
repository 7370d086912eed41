/-
  The document's Parse and Read.
-/
import Derived.Test.YtlfmciocoijnbaaGreatDoorEB
import Derived.Test.YtlfmciocoijnbaaGreatDoorXF
namespace Go.Proofs.YtlfmciocoijnbaaGreatDoor
open Go.RowKit

set_option maxHeartbeats 1600000 in
set_option maxRecDepth 20000 in
theorem rparse0_any (w : World) (n c : Nat) (A : Option Addr) (xs : List Tk) (hA : TkAt w A n xs) (he : TkEnds xs) (hn : n ≤ 1000000000) :
    Calls Tryz.prog 8 #[.slice A n c, .int .i64 0] w fun e w' => ∃ (v : EV) (q : Nat), e = .returned (.tuple #[v.val, .int .i64 (q : Int), ftP (Pf 0 0 xs)]) ∧ PQ w' w.heap.size n xs v q (Pf 0 0 xs) ∧ Below w.heap.size w w' := by
  have hn0 : 0 < n := by rw [← hA.1]; exact (ends_at he).2
  have hn0' : decide ((0 : Int) ≥ n) = false := decide_eq_false (by omega)
  have hn0'' : ¬ (0 : Int) ≥ n := by omega
  obtain ⟨W0, g1, g2, hW0, hg1, hg2, HX, HF, HB0, hg1w, hg2w, hg12, hg10, hg20⟩ := ret_cells w
  have HAB : Hid (∀ g o, A = some ⟨g, o, none⟩ → g < w.heap.size) := fun g o e => by
    obtain ⟨t, ht⟩ := hA.get hn0
    obtain ⟨g', o', e', x0, _⟩ := hA.2 0 t ht
    rw [e] at e'
    injection e' with e'
    injection e' with e1 _
    rw [e1]
    exact World.block_lt_of_cell? w _ x0
  have HPS := Lib.hid (fun (W : World) (b : Nat) (hb : Below w.heap.size w W) (hbw : w.heap.size ≤ b) (hp : RdB W b A n c 0 0 0 0) => efrom_any W b n c 0 0 0 A xs xs (by omega) hp (hA.below hb) (fun g o e => by have := HAB.out g o e; omega) rfl he hn (by omega))
  have HEN := Lib.hid (ends_at he).1
  have HLN := Lib.hid hA.1
  have HA := Lib.hid (fun (W : World) (hb : Below w.heap.size w W) => hA.below hb)
  obtain ⟨E, hE⟩ : ∃ E, E = Pf 0 0 xs := ⟨_, rfl⟩
  rw [← hE] at HPS ⊢
  have HG : Hid (∃ g o, A = some ⟨g, o, none⟩) := by
    obtain ⟨t, ht⟩ := hA.get hn0
    obtain ⟨g, o, e, _⟩ := hA.2 0 t ht
    exact ⟨g, o, e⟩
  clear hA he hE HAB
  go_enter Tryz.func8, Tryz.ntmps8
  go_upto_region 1 with fail
  rw [← hW0, ← hg2, ← hg1]
  clear hW0 hg1 hg2
  go_wp2_with fail
  go_loopw [7] (fun iv wr => ∃ i : Nat, i ≤ n ∧ iv = .int .i64 (i : Int) ∧ Hid (wr = W0)) (fun iv _ => n - (intOf iv).toNat)
  case atStart => exact ⟨0, Nat.zero_le _, rfl, Lib.hid rfl⟩
  case round =>
    obtain ⟨i, hi, rfl, HWW⟩ := hrel
    obtain rfl : wr = W0 := HWW.out
    by_cases him : i < n
    · have HIM := Lib.hid him
      have him' : (i : Int) < n := by omega
      obtain ⟨t, ht⟩ := (HA.out wr HB0.out).get him
      obtain ⟨g, o, e, x0, x1, x2, x3⟩ := (HA.out wr HB0.out).2 i t ht
      subst e
      have HT := HEN.out i t ht
      rw [HLN.out] at HT
      obtain ⟨d, hd⟩ : ∃ d, (t.kind == 5) = d := ⟨_, rfl⟩
      have hd2 : ((i : Int) == (n : Int) - 1) = d := by
        rw [← hd, Bool.eq_iff_iff, beq_iff_eq, beq_iff_eq, HT]
        omega
      have hd3 : (d != d) = false := by cases d <;> rfl
      clear HT ht x1 x2 x3
      go_wp2_with fail
      go_roundw
      case rel => exact ⟨i + 1, by have := HIM.out; omega, by go_num, Lib.hid trivial⟩
      case measure => have := HIM.out; simp [intOf]; omega
    · have him' : ¬ (i : Int) < n := by omega
      obtain ⟨b, hbb⟩ : ∃ b, b = wr.heap.size := ⟨_, rfl⟩
      obtain ⟨W2, hW2⟩ : ∃ W2, W2 = wr.alloc (.cells #[.slice A n c, .int .i64 0, .int .i64 0, .int .i64 0, .int .i64 0] 55) := ⟨_, rfl⟩
      have hb2 : Below wr.heap.size wr W2 := by rw [hW2]; exact (Below.refl _ wr).alloc (Nat.le_refl _) _
      have HX2 := Lib.hid (HX.out.below hb2)
      have HF2 := Lib.hid (HF.out.below hb2)
      have HB2 := Lib.hid (HB0.out.trans (hb2.mono HB0.out.size))
      have hbw : w.heap.size ≤ b := by have := HB0.out.size; omega
      have hg1b : g1 ≠ b := by omega
      have hg2b : g2 ≠ b := by omega
      have HP2 : Hid (RdB W2 b A n c 0 0 0 0) := by rw [hW2, hbb]; exact heap_alloc_new wr _
      have HC := Lib.hid (HPS.out W2 b HB2.out hbw HP2.out)
      have hs2 := hb2.size
      have hs12 : w.heap.size ≤ W2.heap.size := HB2.out.size
      clear hb2 HX HF HB0 HPS
      go_upto_region 9 with fail
      rw [← hW2, ← hbb]
      clear hW2 hbb
      go_wp2_with fail
      refine HC.out.mono ?_
      rintro e w3 ⟨v, rfl, hpp, hm⟩
      have hvv : v.val = .agg #[.int .i64 v.kind, .int .i64 v.num, .string v.name, .int .i64 v.op, .slice v.A v.len v.cap, .int .i64 v.p] := rfl
      rw [hvv]
      obtain ⟨g3, hg3⟩ : ∃ g3, g3 = w3.heap.size := ⟨_, rfl⟩
      obtain ⟨W4, hW4⟩ : ∃ W4, W4 = w3.alloc (xob v) := ⟨_, rfl⟩
      have hb4 : Below w3.heap.size w3 W4 := by rw [hW4]; exact (Below.refl _ w3).alloc (Nat.le_refl _) _
      have HV4 : Hid (XpB W4 g3 v) := by rw [hW4, hg3]; exact XpB.new w3 v
      have HX4 := Lib.hid ((HX2.out.mv hm hg1b).below hb4)
      have HF4 := Lib.hid ((HF2.out.mv hm hg2b).below hb4)
      have HB4 : Hid (Below w.heap.size w W4) := (hm.belowB HB2.out hbw hs12).trans (hb4.mono (by have := World.grownBy.size hm; omega))
      have HPP4 := Lib.hid (show RP W4 W2.heap.size b n c 0 A xs v E from hpp.below hb4)
      have hs3 := World.grownBy.size hm
      have hg31 : ¬ g3 = g1 := by omega
      have hg32 : ¬ g3 = g2 := by omega
      have hbg1 : ¬ b = g1 := Ne.symm hg1b
      have hbg2 : ¬ b = g2 := Ne.symm hg2b
      have hg12W : g1 < W2.heap.size := by omega
      have hg22W : g2 < W2.heap.size := by omega
      unfold xob at hW4
      clear hpp hm hvv hb4 HX2 HF2 HB2 HP2 HC
      go_upto_region 10 with fail
      rw [← hW4, ← hg3]
      clear hW4 hg3
      have a0 := HX4.out.c0
      have a1 := HX4.out.c1
      have a2 := HX4.out.c2
      have a3 := HX4.out.c3
      have a4 := HX4.out.c4
      have a5 := HX4.out.c5
      have f0 := HX4.out.fr 0
      have f1 := HX4.out.fr 1
      have f2 := HX4.out.fr 2
      have f3 := HX4.out.fr 3
      have f4 := HX4.out.fr 4
      have f5 := HX4.out.fr 5
      have k0 := HF4.out.c0
      have k1 := HF4.out.c1
      have j0 := HF4.out.fr 0
      have j1 := HF4.out.fr 1
      have z0 := HV4.out.c0
      have z1 := HV4.out.c1
      have z2 := HV4.out.c2
      have z3 := HV4.out.c3
      have z4 := HV4.out.c4
      have z5 := HV4.out.c5
      cases E with
      | out => exact absurd HPP4.out (by intro h; exact h)
      | bad cc pp =>
        obtain ⟨hcc, q3, hq3, hp3⟩ := HPP4.out
        have HCC := Lib.hid hcc
        have hwn : (cc == 0) = false := beq_eq_false_iff_ne.2 hcc
        have y0 := hp3.c3
        have y1 := hp3.c4
        clear hp3 hcc hq3
        go_wp2_with fail
        go_region
        go_wp2_with fail
        obtain ⟨W9, hW9⟩ : ∃ W, W = res2 W4 g1 g2 ev0 cc pp := ⟨_, rfl⟩
        have HS : XpB W9 g1 ev0 := by rw [hW9]; exact res2_x HX4.out hg12 ev0 cc pp
        have HS' : FtB W9 g2 (.int .i64 cc) (.int .i64 pp) := by rw [hW9]; exact res2_f HF4.out hg12 ev0 cc pp
        have HP : Below w.heap.size w W9 := by rw [hW9]; exact res2_below HB4.out hg1w hg2w ev0 cc pp
        unfold res2 two six at hW9
        dsimp only [ev0] at hW9
        rw [← hW9]
        clear hW9
        refine bodyPost_ret (XpB.res3 (w := W9.drew) (v := ev0) rfl _ rfl rfl HS HS') rfl ?_
        exact ⟨ev0, 0, rfl, ⟨HCC.out, rfl, rfl⟩, HP.drew⟩
      | ok x r =>
        obtain ⟨hgv, hen, q3, hq3, hdr, hp3⟩ := HPP4.out
        have r1 := hp3.c1
        have y0 := hp3.c3
        have HGV := Lib.hid hgv
        have HEE := Lib.hid (And.intro hen (And.intro hq3 hdr))
        clear hgv hen hdr hp3
        go_wp2_with fail
        go_region
        go_wp2_with fail
        obtain ⟨W9, hW9⟩ : ∃ W, W = res2 W4 g1 g2 v 0 0 := ⟨_, rfl⟩
        have HS : XpB W9 g1 v := by rw [hW9]; exact res2_x HX4.out hg12 v 0 0
        have HS' : FtB W9 g2 (.int .i64 0) (.int .i64 0) := by rw [hW9]; exact res2_f HF4.out hg12 v 0 0
        have HP : Below w.heap.size w W9 := by rw [hW9]; exact res2_below HB4.out hg1w hg2w v 0 0
        have HQ : GV W9 w.heap.size W9.heap.size x.gx v := by rw [hW9]; exact res2_gv HGV.out hg12W hg22W hs12 v 0 0
        unfold res2 two six at hW9
        rw [← hW9]
        clear hW9
        refine bodyPost_ret (XpB.res3 (w := W9.drew) (v := v) rfl _ rfl rfl HS HS') rfl ?_
        exact ⟨v, q3, rfl, ⟨HQ.below (Below.refl _ W9).drew (Nat.le_refl _), HEE.out.1, HEE.out.2.1, HEE.out.2.2⟩, HP.drew⟩

set_option maxHeartbeats 1600000 in
set_option maxRecDepth 20000 in
theorem rread_any (w : World) (s : ByteArray) (R : Option Ex × Int × Int) (hR : rdR s.data.toList = R) :
    Calls Tryz.prog 13 #[.string s] w fun e w' => ∃ v : EV, e = .returned (.tuple #[v.val, ftV R.2.1 R.2.2]) ∧ RD w' w.heap.size v R.1 ∧ Below w.heap.size w w' := by
  obtain ⟨W0, g1, g2, hW0, hg1, hg2, HX, HF, HB0, hg1w, hg2w, hg12, hg10, hg20⟩ := ret_cells w
  obtain ⟨S, hS⟩ : ∃ S, scF s.data.toList = S := ⟨_, rfl⟩
  have HT := Lib.hid (rtokens_vars W0 s S hS)
  have hlen := scF_len s.data.toList
  have HEN := Lib.hid (@scF_ends s.data.toList)
  rw [hS] at hlen HEN
  obtain ⟨xs, sc, sp⟩ := S
  rw [rdR_of _ _ _ _ hS] at hR
  have HRR := Lib.hid hR
  simp only at HT hlen HEN
  obtain ⟨n, hn⟩ : ∃ n, xs.length = n := ⟨_, rfl⟩
  have HLN := Lib.hid hn
  rw [hn] at hlen HT
  clear hS hR hn
  go_enter Tryz.func13, Tryz.ntmps13
  go_upto_region 1 with fail
  rw [← hW0, ← hg2, ← hg1]
  clear hW0 hg1 hg2
  go_wp2_with fail
  refine HT.out.mono ?_
  rintro e w1 ⟨A, c, rfl, hA0, hnc, hcm, htr, hb⟩
  have HTK : Hid (TkAt w1 A n xs) := by
    have := (htr.reads).at
    exact this
  obtain ⟨g3, hg3⟩ : ∃ g3, g3 = w1.heap.size := ⟨_, rfl⟩
  obtain ⟨W1, hW1⟩ : ∃ W1, W1 = w1.alloc (.cells #[.int .i64 sc, .int .i64 sp] 29) := ⟨_, rfl⟩
  have hb1 : Below w1.heap.size w1 W1 := by rw [hW1]; exact (Below.refl _ w1).alloc (Nat.le_refl _) _
  have HG1 : Hid (FtB W1 g3 (.int .i64 sc) (.int .i64 sp)) := by rw [hW1, hg3]; exact FtB.new _ _ _
  have HX1 := Lib.hid ((HX.out.below hb).below hb1)
  have HF1 := Lib.hid ((HF.out.below hb).below hb1)
  have HB1 := Lib.hid ((HB0.out.trans (hb.mono HB0.out.size)).trans (hb1.mono (by have := HB0.out.size; have := hb.size; omega)))
  have HTK1 := Lib.hid (HTK.out.below hb1)
  have hs1 := hb.size
  have hs1' := hb1.size
  have hg31 : ¬ g3 = g1 := by omega
  have hg32 : ¬ g3 = g2 := by omega
  have hg13 : ¬ g1 = g3 := by omega
  have hg3w : w.heap.size ≤ g3 := by have := HB0.out.size; omega
  have y0 := HG1.out.c0
  have y1 := HG1.out.c1
  have HTKL : Hid (∀ g o, A = some ⟨g, o, none⟩ → 0 < n → g < g3) := fun g o e hn0 => by
    obtain ⟨t, ht⟩ := HTK.out.get hn0
    obtain ⟨g', o', e', x0, _⟩ := HTK.out.2 0 t ht
    rw [e] at e'
    injection e' with e'
    injection e' with e1 _
    rw [e1, hg3]
    exact World.block_lt_of_cell? w1 _ x0
  have HTKG : Hid (∀ g o, A = some ⟨g, o, none⟩ → 0 < n → g1 < g) := fun g o e hn0 => by
    have hx := HX.out.lt
    rcases htr.2 with ⟨hv, _⟩ | ⟨g', cap, cur, hv, hg', _⟩
    · rw [e] at hv
      cases hv
    · rw [e] at hv
      injection hv with hv
      injection hv with hv
      injection hv with hv
      omega
  clear hb hb1 HT HX HF HB0 HTK htr hA0 hcm
  go_upto_region 2 with fail
  rw [← hW1, ← hg3]
  clear hW1 hg3
  by_cases h0 : sc = 0
  · subst h0
    have he := HEN.out rfl
    have HC := Lib.hid (rparse0_any W1 n c A xs HTK1.out he (by omega))
    have HRR2 : Hid (rdOf (Pf 0 0 xs) = R) := by
      show _ = _
      rw [← HRR.out, if_pos rfl]
    obtain ⟨E, hE⟩ : ∃ E, E = Pf 0 0 xs := ⟨_, rfl⟩
    rw [← hE] at HC HRR2
    have HE := Lib.hid he
    clear he hE HRR HEN
    go_wp2_with fail
    refine HC.out.mono ?_
    rintro e w2 ⟨v, q, rfl, hpq, hb⟩
    have hvv : v.val = .agg #[.int .i64 v.kind, .int .i64 v.num, .string v.name, .int .i64 v.op, .slice v.A v.len v.cap, .int .i64 v.p] := rfl
    rw [hvv]
    unfold ftP ftV
    obtain ⟨g4, hg4⟩ : ∃ g4, g4 = w2.heap.size := ⟨_, rfl⟩
    obtain ⟨W3, hW3⟩ : ∃ W3, W3 = two (w2.alloc (xob v)) g3 E.code E.pt := ⟨_, rfl⟩
    have hb2 : Below w2.heap.size w2 (w2.alloc (xob v)) := (Below.refl _ w2).alloc (Nat.le_refl _) _
    have HG2 := Lib.hid ((HG1.out.below hb).below hb2)
    have hm3 : Mv g3 (w2.alloc (xob v)) W3 := by rw [hW3]; exact two_mv _ g3 _ _
    have HG3 : Hid (FtB W3 g3 (.int .i64 E.code) (.int .i64 E.pt)) := by rw [hW3]; exact HG2.out.two _ _
    have hg34 : ¬ g4 = g3 := by have := (HG1.out.below hb).lt; omega
    have HV3 : Hid (XpB W3 g4 v) := by rw [hg4]; exact (XpB.new w2 v).mv hm3 (by omega)
    have HX3 := Lib.hid ((((HX1.out.below hb).below hb2)).mv hm3 hg13)
    have HF3 := Lib.hid ((((HF1.out.below hb).below hb2)).mv hm3 (Ne.symm hg32))
    have hsb := hb.size
    have HB3 : Hid (Below w.heap.size w W3) := by
      rw [hW3]
      exact below_two ((HB1.out.trans (hb.mono HB1.out.size)).trans (hb2.mono (by have := HB1.out.size; omega))) hg3w _ _
    have HTK3 := Lib.hid (((HTK1.out.below hb).below hb2).mv hm3 (fun g o e => by have := HTKL.out g o e (by rw [← HLN.out]; exact (ends_at HE.out).2); omega))
    have HPQ : Hid (∀ x r, E = .ok x r → GV W3 W1.heap.size w2.heap.size x.gx v ∧ TkEnds r ∧ q < n ∧ xs.drop q = r) := fun x r e => by
      rw [e] at hpq
      obtain ⟨h1, h2⟩ := hpq
      exact ⟨(h1.below hb2 (Nat.le_refl _)).mvh hm3 (.inl HG1.out.lt) (by simp), h2⟩
    have HPB : Hid (∀ c p, E = .bad c p → c ≠ 0) := fun c p e => by
      rw [e] at hpq
      exact hpq.1
    have hno : E ≠ .out := by
      intro e
      rw [e] at hpq
      exact hpq
    have HNO := Lib.hid hno
    have HW1S : Hid (w.heap.size ≤ W1.heap.size ∧ g1 < W1.heap.size ∧ g2 < W1.heap.size ∧ w2.heap.size ≤ W3.heap.size) := ⟨HB1.out.size, HX1.out.lt, HF1.out.lt, by have := HV3.out.lt; omega⟩
    have z0 : ∀ ob : Obj, (w2.alloc ob).frozen? ⟨g3, 0, none⟩ = false := fun ob => ((HG1.out.below hb).alloc ob).fr 0
    have z1 : ∀ ob : Obj, (w2.alloc ob).frozen? ⟨g3, 1, none⟩ = false := fun ob => ((HG1.out.below hb).alloc ob).fr 1
    have z2 : ∀ ob : Obj, (w2.alloc ob).cell? ⟨g3, 0, none⟩ = some (.int .i64 0) := fun ob => ((HG1.out.below hb).alloc ob).c0
    have z3 : ∀ ob : Obj, (w2.alloc ob).cell? ⟨g3, 1, none⟩ = some (.int .i64 sp) := fun ob => ((HG1.out.below hb).alloc ob).c1
    unfold two xob at hW3
    clear hpq hb hvv hb2 hm3 hno HC HX1 HF1 HB1 HTK1 HG1 HG2 y0 y1 hs1 hs1' hsb
    go_upto_region 5 with fail
    rw [← hW3, ← hg4]
    clear hW3 hg4 z0 z1 z2 z3
    have y0 := HG3.out.c0
    have y1 := HG3.out.c1
    have a0 := HX3.out.c0
    have a1 := HX3.out.c1
    have a2 := HX3.out.c2
    have a3 := HX3.out.c3
    have a4 := HX3.out.c4
    have a5 := HX3.out.c5
    have f0 := HX3.out.fr 0
    have f1 := HX3.out.fr 1
    have f2 := HX3.out.fr 2
    have f3 := HX3.out.fr 3
    have f4 := HX3.out.fr 4
    have f5 := HX3.out.fr 5
    have k0 := HF3.out.c0
    have k1 := HF3.out.c1
    have j0 := HF3.out.fr 0
    have j1 := HF3.out.fr 1
    have z0 := HV3.out.c0
    have z1 := HV3.out.c1
    have z2 := HV3.out.c2
    have z3 := HV3.out.c3
    have z4 := HV3.out.c4
    have z5 := HV3.out.c5
    cases E with
    | out => exact absurd rfl HNO.out
    | bad cc pp =>
      have hcc := HPB.out cc pp rfl
      have hwn : (cc == 0) = false := beq_eq_false_iff_ne.2 hcc
      have HEQ : Hid (R = (none, cc, pp)) := HRR2.out.symm
      simp only [PR.code, PR.pt] at y0 y1
      clear hcc
      go_wp2_with fail
      go_region
      go_wp2_with fail
      obtain ⟨W9, hW9⟩ : ∃ W, W = res2 W3 g1 g2 ev0 cc pp := ⟨_, rfl⟩
      have HS : XpB W9 g1 ev0 := by rw [hW9]; exact res2_x HX3.out hg12 ev0 cc pp
      have HS' : FtB W9 g2 (.int .i64 cc) (.int .i64 pp) := by rw [hW9]; exact res2_f HF3.out hg12 ev0 cc pp
      have HP : Below w.heap.size w W9 := by rw [hW9]; exact res2_below HB3.out hg1w hg2w ev0 cc pp
      have HQ : RD W9 w.heap.size ev0 none := by
        rw [hW9]
        rfl
      unfold res2 two six at hW9
      dsimp only [ev0] at hW9
      rw [← hW9]
      clear hW9
      refine bodyPost_ret (XpB.res2 (w := W9.drew) (v := ev0) rfl _ rfl rfl HS HS') rfl ?_
      exact ⟨ev0, by rw [HEQ.out]; rfl, by rw [HEQ.out]; exact HQ.drew, HP.drew⟩
    | ok x r =>
      obtain ⟨hgv, hen, hqn, hdr⟩ := HPQ.out x r rfl
      obtain ⟨t, r, rfl⟩ := ends_cons hen
      obtain ⟨ht, _, _⟩ := drop_get hdr
      obtain ⟨g, o, hAe, x0, x1, x2, x3⟩ := HTK3.out.2 q t ht
      have hqi : (q : Int) < n := by omega
      have HGV := Lib.hid hgv
      have HRR3 : Hid ((if t.kind = 5 then (some x, 0, 0) else (none, 4, t.at_)) = R) := HRR2.out
      simp only [PR.code, PR.pt] at y0 y1
      obtain ⟨d5, hd5⟩ : ∃ d5, (t.kind == 5) = d5 := ⟨_, rfl⟩
      have hd6 : (t.kind != 5) = !d5 := by rw [← hd5]; rfl
      have HD5 := Lib.hid hd5
      have hgn : ¬ g = g1 := by have := HTKG.out g o hAe (by omega); omega
      subst hAe
      have HGV4 : Hid (GV W3 W1.heap.size W3.heap.size x.gx v) := HGV.out.mono (Nat.le_refl _) HW1S.out.2.2.2
      clear hgv hen hqn hdr ht HPQ HRR2 hd5 x1 x2 HGV
      have HX4 := HX3
      have HF4 := HF3
      have HB4 := HB3
      cases d5
      · have HEQ : Hid (R = (none, 4, t.at_)) := by
          have := HRR3.out
          rw [if_neg (beq_eq_false_iff_ne.1 HD5.out)] at this
          exact this.symm
        go_wp2_with fail
        go_region
        go_wp2_with fail
        obtain ⟨W9, hW9⟩ : ∃ W, W = res2 W3 g1 g2 ev0 4 t.at_ := ⟨_, rfl⟩
        have HS : XpB W9 g1 ev0 := by rw [hW9]; exact res2_x HX4.out hg12 ev0 4 t.at_
        have HS' : FtB W9 g2 (.int .i64 4) (.int .i64 t.at_) := by rw [hW9]; exact res2_f HF4.out hg12 ev0 4 t.at_
        have HP : Below w.heap.size w W9 := by rw [hW9]; exact res2_below HB4.out hg1w hg2w ev0 4 t.at_
        have HQ : RD W9 w.heap.size ev0 none := by
          rw [hW9]
          rfl
        unfold res2 two six at hW9
        dsimp only [ev0] at hW9
        rw [← hW9]
        clear hW9
        refine bodyPost_ret (XpB.res2 (w := W9.drew) (v := ev0) rfl _ rfl rfl HS HS') rfl ?_
        exact ⟨ev0, by rw [HEQ.out]; rfl, by rw [HEQ.out]; exact HQ.drew, HP.drew⟩
      · have HEQ : Hid (R = (some x, 0, 0)) := by
          have := HRR3.out
          rw [if_pos (eq_of_beq HD5.out)] at this
          exact this.symm
        go_wp2_with fail
        obtain ⟨W9, hW9⟩ : ∃ W, W = res2 W3 g1 g2 v 0 0 := ⟨_, rfl⟩
        have HS : XpB W9 g1 v := by rw [hW9]; exact res2_x HX4.out hg12 v 0 0
        have HS' : FtB W9 g2 (.int .i64 0) (.int .i64 0) := by rw [hW9]; exact res2_f HF4.out hg12 v 0 0
        have HP : Below w.heap.size w W9 := by rw [hW9]; exact res2_below HB4.out hg1w hg2w v 0 0
        have HQ : RD W9 w.heap.size v (some x) := by
          rw [hW9]
          exact res2_gv HGV4.out HW1S.out.2.1 HW1S.out.2.2.1 HW1S.out.1 v 0 0
        unfold res2 two six at hW9
        rw [← hW9]
        clear hW9
        refine bodyPost_ret (XpB.res2 (w := W9) (v := v) rfl _ rfl rfl HS HS') rfl ?_
        exact ⟨v, by rw [HEQ.out]; rfl, by rw [HEQ.out]; exact HQ, HP⟩
  · have hwn : (sc == 0) = false := beq_eq_false_iff_ne.2 h0
    have HEQ : Hid (R = (none, sc, sp)) := by
      have := HRR.out
      rw [if_neg h0] at this
      exact this.symm
    have a0 := HX1.out.c0
    have a1 := HX1.out.c1
    have a2 := HX1.out.c2
    have a3 := HX1.out.c3
    have a4 := HX1.out.c4
    have a5 := HX1.out.c5
    have f0 := HX1.out.fr 0
    have f1 := HX1.out.fr 1
    have f2 := HX1.out.fr 2
    have f3 := HX1.out.fr 3
    have f4 := HX1.out.fr 4
    have f5 := HX1.out.fr 5
    have k0 := HF1.out.c0
    have k1 := HF1.out.c1
    have j0 := HF1.out.fr 0
    have j1 := HF1.out.fr 1
    clear h0
    go_wp2_with fail
    go_region
    go_wp2_with fail
    obtain ⟨W9, hW9⟩ : ∃ W, W = res2 W1 g1 g2 ev0 sc sp := ⟨_, rfl⟩
    have HS : XpB W9 g1 ev0 := by rw [hW9]; exact res2_x HX1.out hg12 ev0 sc sp
    have HS' : FtB W9 g2 (.int .i64 sc) (.int .i64 sp) := by rw [hW9]; exact res2_f HF1.out hg12 ev0 sc sp
    have HP : Below w.heap.size w W9 := by rw [hW9]; exact res2_below HB1.out hg1w hg2w ev0 sc sp
    have HQ : RD W9 w.heap.size ev0 none := by
      rw [hW9]
      rfl
    unfold res2 two six at hW9
    dsimp only [ev0] at hW9
    rw [← hW9]
    clear hW9
    refine bodyPost_ret (XpB.res2 (w := W9.drew) (v := ev0) rfl _ rfl rfl HS HS') rfl ?_
    exact ⟨ev0, by rw [HEQ.out]; rfl, by rw [HEQ.out]; exact HQ.drew, HP.drew⟩

end Go.Proofs.YtlfmciocoijnbaaGreatDoor
