/-
  The document's writer of expressions: an operator and its operands.
-/
import Derived.Test.YtlfmciocoijnbaaGreatDoorEqF
namespace Go.Proofs.YtlfmciocoijnbaaGreatDoor
open Go.RowKit

theorem NumB.below {w w' : World} {g k : Nat} (h : NumB w g k) (hb : Below w.heap.size w w') : NumB w' g k := (hb.block g (heap_lt h)).trans h

set_option maxHeartbeats 3200000 in
set_option maxRecDepth 20000 in
theorem pexpr_one (u : World) (b : Nat) (x : GX) (hk : x.kind = 4) (ih : ∀ (i : Nat) (z : GX), x.subs[i]? = some z → GPar u b z) : GExp u b x := by
  intro w v l e hx hg hbl hpb hl
  obtain ⟨a1, a2, a3, a4, a5, a6, a7, a8, a9⟩ := hg.out
  obtain ⟨g1, hg1⟩ : ∃ g1, g1 = w.heap.size := ⟨_, rfl⟩
  obtain ⟨W0, hW0⟩ : ∃ W0, W0 = w.alloc (.cells #[.int .i64 v.kind, .int .i64 v.num, .string v.name, .int .i64 v.op, .slice v.A v.len v.cap, .int .i64 v.p] 26) := ⟨_, rfl⟩
  have HA : Hid (PAt u b g1 v w W0 l) := by rw [hW0, hg1]; exact PAt.new hbl hpb hl
  have HWA : Hid (Wk u.heap.size b w W0) := HA.out.wk
  have hn1 : g1 ≠ b := by have := hpb.lt; omega
  have HN1 := Lib.hid hn1
  obtain ⟨ao, acap, p0⟩ := HA.out.pb.c0
  have z0 := HA.out.xp.c0
  by_cases hfull : 16384 < l.length
  · have hfull' : (16384 : Int) < l.length := by omega
    have hvv : v.val = .agg #[.int .i64 v.kind, .int .i64 v.num, .string v.name, .int .i64 v.op, .slice v.A v.len v.cap, .int .i64 v.p] := rfl
    rw [hvv]
    have HFU := Lib.hid hfull
    have HLL := Lib.hid hl
    clear hx hg hbl hpb hl hk a1 a2 a3 a4 a5 a6 a7 a8 a9 hvv hn1 hfull z0 ih
    go_enter Tryz.func27, Tryz.ntmps27
    go_upto_region 1 with fail
    rw [← hW0, ← hg1]
    clear hW0 hg1
    go_wp2_with fail
    refine bodyPost_ret (results_none rfl _ _ _) rfl ?_
    exact ⟨rfl, ⟨l, HA.out.pb, Pg.full HFU.out HLL.out⟩, HWA.out⟩
  have hfull' : ¬ (16384 : Int) < l.length := by omega
  obtain ⟨kk, nn, ss, oo, ls, pp⟩ := x
  rw [ex_mk] at hx
  replace a1 : v.kind = kk := a1
  replace a4 : v.op = oo := a4
  replace a6 : v.len = ls.length := a6
  replace a9 : GRow u 0 u.heap.size ls v.A 0 := a9
  replace hk : kk = 4 := hk
  subst hk
  obtain ⟨y, rfl, h3, hls, rfl⟩ : ∃ y, nn = 0 ∧ (oo = 14 ∨ oo = 15) ∧ GX.exs ls = [some y] ∧ e = .one oo y 0 := by
    rcases node_some hx with ⟨h, _⟩ | ⟨h, _⟩ | ⟨h, _⟩ | ⟨y, _, h1, h2, h3, h4, h5⟩ | ⟨y, y', h, _⟩
    · cases h
    · cases h
    · cases h
    · exact ⟨y, h1, h3, h4, h5⟩
    · cases h
  obtain ⟨z, rfl, hz⟩ := exs_is_one hls
  have HPT := ih 0 z rfl
  have hkb := kind_both hz
  obtain ⟨go, o, v', hAe, _, hgo, hev, hgz⟩ := a9.get 0 z rfl
  have eo : o + (0 + 0) * 6 = o := by omega
  rw [eo] at hev
  have hk' : v'.kind = z.kind := hgz.out.1
  have HEV := Lib.hid (fun (W : World) (hb : Below u.heap.size u W) => hev.same (hb.block go hgo))
  obtain ⟨c1, hc1⟩ : ∃ c, y.isBoth = c := ⟨_, rfl⟩
  have HC := Lib.hid (fun (W : World) (l : List UInt8) (bl : Below u.heap.size u W) (pb : PB W u.heap.size b l) (hl : l.length ≤ 16500) => HPT W v' c1 l y hz hgz bl pb hl)
  have hkc : (v'.kind == 5) = c1 := by rw [hk', hkb, hc1]
  obtain ⟨k, num, S, op, A, len, cap, p⟩ := v
  simp only at hW0 a1 a4 a6 a7 hAe z0
  subst a1 a4 hAe
  obtain ⟨cs, hcs⟩ : ∃ cs : UInt8, (if op = 14 then 45 else 33) = cs := ⟨_, rfl⟩
  have HTX : Hid ((Ex.one op y 0).tx = cs :: par c1 y.tx) := by show _ = _; rw [one_tx, hcs, hc1]
  have hlen : len = 1 := by rw [a6]; rfl
  subst hlen
  have hcap : 1 ≤ cap := a7
  obtain ⟨k2, num2, S2, op2, A2, len2, cap2, p2⟩ := v'
  simp only [EV.val] at HC ⊢
  simp only at hkc
  have HKC := Lib.hid hkc
  have HP : Hid _ := Lib.hid (fun (S : ByteArray) (hs : S.size ≤ 100) => pput_any W0 u.heap.size b l S HA.out.pb HA.out.le hs HA.out.bl.size)
  clear hx hg hbl hpb hl a2 a3 a5 a6 a7 a8 a9 hn1 hfull ih HPT hkb hz hev hgz eo hk' hgo hc1 hls hkc
  have fin : ∀ (w2 : World), (∃ l2, PB w2 u.heap.size b l2 ∧ Pg l [cs] l2) → Wk u.heap.size b W0 w2 → ∃ l2, Hid (PAt u b g1 ⟨4, num, S, op, some ⟨go, o, none⟩, 1, cap, p⟩ w w2 l2) ∧ Hid (Pg l [cs] l2) := fun w2 h hk2 => by
    obtain ⟨l2, hp2, hg2⟩ := h
    exact ⟨l2, HA.out.go HN1.out hk2 hp2 hg2.le, hg2⟩
  have HFIN := Lib.hid fin
  clear fin
  rcases h3 with rfl | rfl
  · obtain rfl : cs = 45 := hcs.symm
    have HP1 := Lib.hid (HP.out ⟨#[45]⟩ (by decide))
    have z3 := HA.out.xp.c3
    simp only at z3
    clear HP hcs
    go_enter Tryz.func27, Tryz.ntmps27
    go_upto_region 1 with fail
    rw [← hW0, ← hg1]
    clear hW0 hg1
    go_wp2_with fail
    refine HP1.out.mono ?_
    rintro r w2 ⟨rfl, hp2, hk2⟩
    obtain ⟨l2, HA2, HG2⟩ := HFIN.out w2 hp2 hk2
    have z4 := HA2.out.xp.c4
    simp only at z4
    obtain ⟨y0, y1, y2, y3, y4, y5⟩ := HEV.out w2 HA2.out.bl
    simp only at y0 y1 y2 y3 y4 y5
    have hkc := HKC.out
    clear hp2 hk2 HP1 HFIN z0 z3 p0
    go_wp2_with fail
    go_still_tail 11, (by kernel_rfl)
    change wpList _ _ _ _ _ (World.drew w2)
    obtain ⟨W1, hW1⟩ : ∃ W1, W1 = w2.drew := ⟨_, rfl⟩
    have HA3 : Hid (PAt u b g1 ⟨4, num, S, 14, some ⟨go, o, none⟩, 1, cap, p⟩ w W1 l2) := by rw [hW1]; exact HA2.out.drew HN1.out
    have HCC := Lib.hid (HC.out W1 l2 HA3.out.bl HA3.out.pb HA3.out.le)
    rw [← hW1]
    clear hW1 HC HA2 z4 y0 y1 y2 y3 y4 y5
    go_wp2_with fail
    refine HCC.out.mono ?_
    rintro r w4 ⟨rfl, hq⟩
    have HQ := Lib.hid hq
    clear hq HCC
    go_wp2_with fail
    go_end0
    refine ⟨rfl, ?_⟩
    obtain ⟨⟨l4, h1, h2⟩, h3⟩ := HQ.out
    exact ⟨⟨l4, h1, by rw [HTX.out]; exact HG2.out.trans h2⟩, HA3.out.wk.trans h3⟩
  · obtain rfl : cs = 33 := hcs.symm
    have HP1 := Lib.hid (HP.out ⟨#[33]⟩ (by decide))
    have z3 := HA.out.xp.c3
    simp only at z3
    clear HP hcs
    go_enter Tryz.func27, Tryz.ntmps27
    go_upto_region 1 with fail
    rw [← hW0, ← hg1]
    clear hW0 hg1
    go_wp2_with fail
    refine HP1.out.mono ?_
    rintro r w2 ⟨rfl, hp2, hk2⟩
    obtain ⟨l2, HA2, HG2⟩ := HFIN.out w2 hp2 hk2
    have z4 := HA2.out.xp.c4
    simp only at z4
    obtain ⟨y0, y1, y2, y3, y4, y5⟩ := HEV.out w2 HA2.out.bl
    simp only at y0 y1 y2 y3 y4 y5
    have hkc := HKC.out
    clear hp2 hk2 HP1 HFIN z0 z3 p0
    go_wp2_with fail
    go_still_tail 11, (by kernel_rfl)
    change wpList _ _ _ _ _ (World.drew w2)
    obtain ⟨W1, hW1⟩ : ∃ W1, W1 = w2.drew := ⟨_, rfl⟩
    have HA3 : Hid (PAt u b g1 ⟨4, num, S, 15, some ⟨go, o, none⟩, 1, cap, p⟩ w W1 l2) := by rw [hW1]; exact HA2.out.drew HN1.out
    have HCC := Lib.hid (HC.out W1 l2 HA3.out.bl HA3.out.pb HA3.out.le)
    rw [← hW1]
    clear hW1 HC HA2 z4 y0 y1 y2 y3 y4 y5
    go_wp2_with fail
    refine HCC.out.mono ?_
    rintro r w4 ⟨rfl, hq⟩
    have HQ := Lib.hid hq
    clear hq HCC
    go_wp2_with fail
    go_end0
    refine ⟨rfl, ?_⟩
    obtain ⟨⟨l4, h1, h2⟩, h3⟩ := HQ.out
    exact ⟨⟨l4, h1, by rw [HTX.out]; exact HG2.out.trans h2⟩, HA3.out.wk.trans h3⟩

end Go.Proofs.YtlfmciocoijnbaaGreatDoor
