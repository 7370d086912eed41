/-
  The document's Same over charts.
-/
import Derived.Test.YtcddbfdbhjkjgaaGreatDoorSeE
namespace Go.Proofs.YtcddbfdbhjkjgaaGreatDoor
open Go.RowKit

theorem kid_size {k p : Int} {nm ini dft : List UInt8} {en le : List SyAct} {mo : List SyMove} {ks : List SyNode} {i : Nat} {a : SyNode} (h : ks[i]? = some a) : SizeOf.sizeOf a < SizeOf.sizeOf (SyNode.mk k nm ini dft en le mo ks p) := by
  have := List.sizeOf_lt_of_mem (List.mem_of_getElem? h)
  simp only [SyNode.mk.sizeOf_spec]
  omega
theorem sn_all : ∀ (m : Nat) (x : SyNode), SizeOf.sizeOf x ≤ m → SN x
  | 0, .mk k nm ini dft en le mo ks p, hm => by
    simp only [SyNode.mk.sizeOf_spec] at hm
    omega
  | m + 1, .mk k nm ini dft en le mo ks p, hm => samenode_step k p nm ini dft en le mo ks (fun i a ha => sn_all m a (by have := kid_size (k := k) (p := p) (nm := nm) (ini := ini) (dft := dft) (en := en) (le := le) (mo := mo) ha; omega))

/-- Variables that agree; charts that do; in their places too, if asked for. -/
def vG (pl : Bool) (a b : SyVar) : Prop := a.name = b.name ∧ a.num = b.num ∧ (pl = true → a.at_ = b.at_)
def vsG (pl : Bool) (l l' : List SyVar) : Prop := l.length = l'.length ∧ ∀ (i : Nat) (a b : SyVar), l[i]? = some a → l'[i]? = some b → vG pl a b
def cG (pl : Bool) (c c' : SyChart) : Prop := vsG pl c.vars c'.vars ∧ nG pl c.root c'.root
theorem cG_same (pl : Bool) (c : SyChart) : cG pl c c := ⟨⟨rfl, fun i a b ha hb => by rw [ha] at hb; obtain rfl := Option.some.inj hb; exact ⟨rfl, rfl, fun _ => rfl⟩⟩, nG_same pl _⟩
theorem cG_er {c c' : SyChart} (h : c.er = c'.er) : cG false c c' := by
  obtain ⟨l, x⟩ := c
  obtain ⟨l', x'⟩ := c'
  injection h with h1 h2
  refine ⟨⟨(map_at h1).1, fun i a b ha hb => ?_⟩, nG_er h2⟩
  have := (map_at h1).2 i a b ha hb
  obtain ⟨n, u, p⟩ := a
  obtain ⟨n', u', p'⟩ := b
  injection this with e1 e2 _
  exact ⟨e1, e2, fun h => by cases h⟩
theorem var_vals {w : World} {a : SyVar} {xs : List Value} {F : List Nat} (h : DvsAt w (dvVar a) xs F) : xs = [txV a.name, .int .i64 a.num, .int .i64 a.at_] := by
  unfold dvVar at h
  obtain ⟨x0, ys, _, _, rfl, d0, h⟩ := h.uncons
  obtain ⟨x1, ys, _, _, rfl, d1, h⟩ := h.uncons
  obtain ⟨x2, ys, _, _, rfl, d2, h⟩ := h.uncons
  unfold DvsAt at h
  obtain ⟨rfl, _⟩ := h
  rw [d0.v, d1.v, d2.v]

set_option maxHeartbeats 6400000 in
set_option maxRecDepth 20000 in
theorem samechart_any (w : World) (pl o o' : Bool) (c c' : SyChart) (xs ys : List Value) (F F' : List Nat) (h : DvsAt w (dvChart o c) xs F) (h' : DvsAt w (dvChart o' c') ys F') (hs : cG pl c c') :
    Calls Tryz.prog 10 #[.agg xs.toArray, .agg ys.toArray, .bool pl] w fun e w' => e = .returned (.bool true) ∧ Below w.heap.size w w' := by
  obtain ⟨vs, k, nm, ini, dft, en, le, mo, ks, p⟩ := c
  obtain ⟨vs', k', nm', ini', dft', qen, qle, qmo, qks, qp⟩ := c'
  obtain ⟨hv, hg⟩ := hs
  unfold dvChart at h h'
  obtain ⟨vx, xs, F0, F1, rfl, dv, dn⟩ := h.uncons
  obtain ⟨ux, ys, G0, G1, rfl, du, dm⟩ := h'.uncons
  have HCN0 := fun (W : World) (hb : Below w.heap.size w W) => sn_all _ _ (Nat.le_refl _) _ pl o o' W _ _ _ _ (dn.below hb) (dm.below hb) hg
  obtain ⟨A1, A2, A3, A4, Ac1, Ac2, Ac3, Ac4, F1, F2, F3, F4, rfl, _⟩ := node_vals dn
  obtain ⟨B1, B2, B3, B4, Bc1, Bc2, Bc3, Bc4, G1, G2, G3, G4, rfl, _⟩ := node_vals dm
  obtain ⟨A0, Ac0, rfl, hc1, hc2⟩ := DvAt.slice (show DvAt w (.row 51 3 vs.length (vs.flatMap dvVar)) vx _ from dv)
  obtain ⟨B0, Bc0, rfl, hc3, hc4⟩ := DvAt.slice (show DvAt w (.row 51 3 vs'.length (vs'.flatMap dvVar)) ux _ from du)
  obtain ⟨N, hN⟩ := str_of nm
  obtain ⟨I, hI⟩ := str_of ini
  obtain ⟨D, hD⟩ := str_of dft
  obtain ⟨N', hN'⟩ := str_of nm'
  obtain ⟨I', hI'⟩ := str_of ini'
  obtain ⟨D', hD'⟩ := str_of dft'
  rw [hN, hI, hD, hN', hI', hD'] at HCN0
  rw [hN, hI, hD, hN', hI', hD']
  have HCN := Lib.hid HCN0
  obtain ⟨g1, hg1⟩ : ∃ g, g = w.heap.size := ⟨_, rfl⟩
  obtain ⟨g2, hg2⟩ : ∃ g, g = w.heap.size + 1 := ⟨_, rfl⟩
  obtain ⟨Wa, hWa⟩ : ∃ W, W = w.alloc (.cells #[.slice A0 vs.length Ac0, .int .i64 k, .string N, .string I, .string D, .slice A1 en.length Ac1, .slice A2 le.length Ac2, .slice A3 mo.length Ac3, .slice A4 ks.length Ac4, .int .i64 p] 30) := ⟨_, rfl⟩
  obtain ⟨W0, hW0⟩ : ∃ W, W = Wa.alloc (.cells #[.slice B0 vs'.length Bc0, .int .i64 k', .string N', .string I', .string D', .slice B1 qen.length Bc1, .slice B2 qle.length Bc2, .slice B3 qmo.length Bc3, .slice B4 qks.length Bc4, .int .i64 qp] 30) := ⟨_, rfl⟩
  have hsa : Wa.heap.size = w.heap.size + 1 := by rw [hWa]; simp
  have HX : Hid (CB W0 g1 30 [.slice A0 vs.length Ac0, .int .i64 k, .string N, .string I, .string D, .slice A1 en.length Ac1, .slice A2 le.length Ac2, .slice A3 mo.length Ac3, .slice A4 ks.length Ac4, .int .i64 p]) := by rw [hW0, hWa, hg1]; exact (CB.new w _ [.slice A0 vs.length Ac0, .int .i64 k, .string N, .string I, .string D, .slice A1 en.length Ac1, .slice A2 le.length Ac2, .slice A3 mo.length Ac3, .slice A4 ks.length Ac4, .int .i64 p]).alloc _
  have HY : Hid (CB W0 g2 30 [.slice B0 vs'.length Bc0, .int .i64 k', .string N', .string I', .string D', .slice B1 qen.length Bc1, .slice B2 qle.length Bc2, .slice B3 qmo.length Bc3, .slice B4 qks.length Bc4, .int .i64 qp]) := by
    have := CB.new Wa 30 [.slice B0 vs'.length Bc0, .int .i64 k', .string N', .string I', .string D', .slice B1 qen.length Bc1, .slice B2 qle.length Bc2, .slice B3 qmo.length Bc3, .slice B4 qks.length Bc4, .int .i64 qp]
    rw [hsa, ← hg2] at this
    rw [hW0]
    exact this
  have HB : Hid (Below w.heap.size w W0) := by rw [hW0, hWa]; exact ((Below.refl _ w).alloc (Nat.le_refl _) _).alloc (by simp) _
  have HVS := Lib.hid (And.intro dv (And.intro du hv.2))
  have HMX : Hid (vs.length ≤ 9223372036854775807) := by
    have : maxLen ≤ 9223372036854775807 := by decide
    show _ ≤ _
    omega
  have hvl := hv.1
  have HL := Lib.hid hvl
  have e7 : ((vs.length : Int) != vs'.length) = false := by rw [hvl]; simp
  have x0 := HX.out.c 0 rfl
  have y0 := HY.out.c 0 rfl
  clear h h' dv du dn dm hv hg hN hI hD hN' hI' hD' hc1 hc2 hc3 hc4 hsa hvl HCN0
  go_enter Tryz.func10, Tryz.ntmps10
  go_upto_region 1 with fail
  rw [← hWa, ← hW0, ← hg2, ← hg1]
  clear hWa hW0 hg2 hg1
  go_wp2_with fail
  clear x0 y0 e7
  go_loopw [7] (fun iv wr => ∃ i : Nat, i ≤ vs.length ∧ iv = .int .i64 (i : Int) ∧ Hid (Below w.heap.size w wr) ∧ Hid (CB wr g1 30 [.slice A0 vs.length Ac0, .int .i64 k, .string N, .string I, .string D, .slice A1 en.length Ac1, .slice A2 le.length Ac2, .slice A3 mo.length Ac3, .slice A4 ks.length Ac4, .int .i64 p]) ∧ Hid (CB wr g2 30 [.slice B0 vs'.length Bc0, .int .i64 k', .string N', .string I', .string D', .slice B1 qen.length Bc1, .slice B2 qle.length Bc2, .slice B3 qmo.length Bc3, .slice B4 qks.length Bc4, .int .i64 qp])) (fun iv _ => vs.length - (intOf iv).toNat)
  case atStart => exact ⟨0, Nat.zero_le _, rfl, HB, HX, HY⟩
  case round =>
    obtain ⟨i, hi, rfl, HBW, HXW, HYW⟩ := hrel
    have x0 := HXW.out.c 0 rfl
    have y0 := HYW.out.c 0 rfl
    by_cases him : i < vs.length
    · have HIM := Lib.hid him
      have him' : (i : Int) < vs.length := by omega
      have him2 : (i : Int) < vs'.length := by rw [← HL.out]; exact him'
      have him3 : i < vs'.length := by rw [← HL.out]; exact him
      obtain ⟨a, ha⟩ : ∃ a, vs[i]? = some a := ⟨_, List.getElem?_eq_getElem him⟩
      obtain ⟨b, hb⟩ : ∃ b, vs'[i]? = some b := ⟨_, List.getElem?_eq_getElem him3⟩
      obtain ⟨a1, a2, a3⟩ := HVS.out.2.2 i a b ha hb
      obtain ⟨g, _, zs, Fy, hv, _, _, hg, hy, _, hyc⟩ := row_elem (f := dvVar) (k := 3) (fun _ => rfl) (show DvAt w (.row 51 3 vs.length (vs.flatMap dvVar)) _ _ from HVS.out.1) ha
      obtain ⟨g', _, us, Fz, hv', _, _, hg', hz, _, hzc⟩ := row_elem (f := dvVar) (k := 3) (fun _ => rfl) (show DvAt w (.row 51 3 vs'.length (vs'.flatMap dvVar)) _ _ from HVS.out.2.1) hb
      obtain rfl : A0 = some ⟨g, 0, none⟩ := by injection hv
      obtain rfl : B0 = some ⟨g', 0, none⟩ := by injection hv'
      obtain rfl := var_vals hy
      obtain rfl := var_vals hz
      rw [← a1] at hzc
      obtain ⟨EX, hEX⟩ := str_of a.name
      rw [hEX] at hyc hzc
      have q1 : (a.num != b.num) = false := by simp [bne, a2]
      have HT := Lib.hid a3
      have kb : ∀ {p : Addr} {u : Value}, w.cell? p = some u → wr.cell? p = some u := fun hc => by rw [World.cell?_of_block (HBW.out.block _ (World.block_lt_of_cell? w _ hc))]; exact hc
      have u0 : wr.cell? ⟨g, i * 3, none⟩ = _ := kb (hyc 0 _ rfl)
      have v0 : wr.cell? ⟨g', i * 3, none⟩ = _ := kb (hzc 0 _ rfl)
      have u1 := kb (hyc 1 _ rfl)
      have v1 := kb (hzc 1 _ rfl)
      have u2 := kb (hyc 2 _ rfl)
      have v2 := kb (hzc 2 _ rfl)
      clear kb hyc hzc hy hz ha hb hv hv' hEX hg hg' a1 a2 a3
      cases pl
      · clear u2 v2
        go_wp2_with fail
        go_quiet (fail)
        clear x0 y0 u0 v0 u1 v1 q1
        go_wp2_with fail
        go_roundw
        case rel => exact ⟨i + 1, by have := HIM.out; omega, by have h1 := HIM.out; have h2 := HMX.out; rw [Go.IntWalk.wrap64_in _ ⟨by omega, by omega⟩]; rfl, HBW.out.trans ((drewN_below wr _).mono HBW.out.size), HXW.out.below (drewN_below wr _), HYW.out.below (drewN_below wr _)⟩
        case measure => have h1 := HIM.out; have h2 := HMX.out; rw [Go.IntWalk.wrap64_in _ ⟨by omega, by omega⟩]; simp [intOf]; omega
      · have q2 : (a.at_ != b.at_) = false := by simp [bne, HT.out rfl]
        go_wp2_with fail
        go_quiet (fail)
        clear x0 y0 u0 v0 u1 v1 u2 v2 q1 q2
        go_wp2_with fail
        go_roundw
        case rel => exact ⟨i + 1, by have := HIM.out; omega, by have h1 := HIM.out; have h2 := HMX.out; rw [Go.IntWalk.wrap64_in _ ⟨by omega, by omega⟩]; rfl, HBW.out.trans ((drewN_below wr _).mono HBW.out.size), HXW.out.below (drewN_below wr _), HYW.out.below (drewN_below wr _)⟩
        case measure => have h1 := HIM.out; have h2 := HMX.out; rw [Go.IntWalk.wrap64_in _ ⟨by omega, by omega⟩]; simp [intOf]; omega
    · have him' : ¬ (i : Int) < vs.length := by omega
      have x1 := HXW.out.c 1 rfl
      have x2 := HXW.out.c 2 rfl
      have x3 := HXW.out.c 3 rfl
      have x4 := HXW.out.c 4 rfl
      have x5 := HXW.out.c 5 rfl
      have x6 := HXW.out.c 6 rfl
      have x7 := HXW.out.c 7 rfl
      have x8 := HXW.out.c 8 rfl
      have x9 := HXW.out.c 9 rfl
      have y1 := HYW.out.c 1 rfl
      have y2 := HYW.out.c 2 rfl
      have y3 := HYW.out.c 3 rfl
      have y4 := HYW.out.c 4 rfl
      have y5 := HYW.out.c 5 rfl
      have y6 := HYW.out.c 6 rfl
      have y7 := HYW.out.c 7 rfl
      have y8 := HYW.out.c 8 rfl
      have y9 := HYW.out.c 9 rfl
      have HCC := Lib.hid (HCN.out wr HBW.out)
      clear hi him HCN
      go_wp2_with fail
      refine HCC.out.mono ?_
      rintro e w4 ⟨rfl, hb⟩
      have HBW4 := Lib.hid (HBW.out.trans (hb.mono HBW.out.size))
      clear hb HCC
      go_wp2_with fail
      go_ret
      exact ⟨rfl, HBW4.out⟩

end Go.Proofs.YtcddbfdbhjkjgaaGreatDoor
