/-
  The document's evaluation of any tree.
-/
import Derived.Test.YthgodhojhajahaaGreatDoorVaR
import Derived.Test.YthgodhojhajahaaGreatDoorEvO
import Derived.Deep.RegionHeld3
namespace Go.Proofs.YthgodhojhajahaaGreatDoor
open Go.RowKit

def inR (n : Int) : Prop := -9223372036854775808 ≤ n ∧ n ≤ 9223372036854775807

theorem wrap_inR (n : Int) : inR (wrap64 n) := by unfold inR wrap64; omega
theorem tru_inR (p : Prop) [Decidable p] : inR (truI p) := by unfold inR truI; split <;> omega
theorem zero_inR : inR 0 := by unfold inR; omega
theorem one_inR : inR 1 := by unfold inR; omega

theorem ite_inR {p : Prop} [Decidable p] {a b : Int} (ha : inR a) (hb : inR b) : inR (if p then a else b) := by split <;> assumption

theorem doN_inR (op a b : Int) (ha : inR a) : inR (doN op a b) := by
  have hm : inR (a.tmod b) := by rw [← w_mod a b ha.1 ha.2]; exact wrap_inR _
  unfold doN
  repeat' first | exact wrap_inR _ | exact tru_inR _ | exact zero_inR | exact hm | apply ite_inR

theorem oneN_inR (op a : Int) : inR (oneN op a) := by
  unfold oneN
  repeat' split
  all_goals first | exact wrap_inR _ | exact tru_inR _ | exact zero_inR

theorem look_inR (s : List UInt8) : ∀ (l : List (List UInt8)) (ns : List Int), (∀ n ∈ ns, inR n) → inR (lookP s l ns).1
  | [], _, _ => zero_inR
  | m :: l, ns, h => by
    rw [look_cons]
    split
    · cases ns with
      | nil => exact zero_inR
      | cons n ns => exact h n (by simp)
    · exact look_inR s l ns.tail (fun n hn => h n (List.mem_of_mem_tail hn))

theorem leaf_inR (e : EnvP) (k n : Int) (s : List UInt8) (hn : inR n) (he : ∀ n ∈ e.nums, inR n) : inR (leafP e k n s).1 := by
  unfold leafP
  split
  · exact hn
  · split
    · show inR (if s ∈ e.act then 1 else 0)
      split
      · exact one_inR
      · exact zero_inR
    · exact look_inR s _ _ he

mutual
theorem evP_inR (e : EnvP) (he : ∀ n ∈ e.nums, inR n) : ∀ x : GX, x.rng → inR (evP e x).1
  | .mk k n s o l p, h => by
    rw [GX.rng] at h
    have hl := evsP_inR e he l h.2.2.2
    rw [evP_mk]
    rcases node_ways e k n s o l with ⟨rfl, rfl, hr⟩ | ⟨rfl, rfl, hr⟩ | ⟨rfl, rfl, hr⟩ | ⟨a, rfl, rfl, hr⟩ | ⟨a, b, rfl, rfl, hr⟩ | ⟨hr, _⟩
    · rw [hr]; exact h.1
    · rw [hr]; exact look_inR _ _ _ he
    · rw [hr]
      show inR (if s ∈ e.act then 1 else 0)
      split
      · exact one_inR
      · exact zero_inR
    · rw [hr]
      unfold oneP
      split
      · exact oneN_inR _ _
      · exact zero_inR
    · rw [hr]
      have ha := hl (evP e a) (by rw [evsP_two]; simp)
      unfold bothP
      repeat' split
      all_goals first | exact doN_inR _ _ _ ha | exact zero_inR | exact one_inR
    · rw [hr]; exact zero_inR
theorem evsP_inR (e : EnvP) (he : ∀ n ∈ e.nums, inR n) : ∀ l : List GX, GX.rngs l → ∀ r ∈ evsP e l, inR r.1
  | [], _, r, hr => by rw [evsP_nil] at hr; cases hr
  | x :: l, h, r, hr => by
    rw [GX.rngs] at h
    rw [evsP_cons, List.mem_cons] at hr
    rcases hr with rfl | hr
    · exact evP_inR e he x h.1
    · exact evsP_inR e he l h.2 r hr
end

/-- What the document's evaluation answers at a tree. -/
def REVl (x : GX) : Prop := x.rng → ∀ (w : World) (v : EV) (e : NV) (xs zs : List ByteArray) (ns : List Int), NvIs w e xs zs ns → (∀ n ∈ ns, inR n) → GV w 0 w.heap.size x v →
  Calls Tryz.prog 12 #[v.val, e.val] w fun r w' => r = .returned (.tuple #[.int .i64 (evP (envP xs zs ns) x).1, .int .i64 (evP (envP xs zs ns) x).2]) ∧ Below w.heap.size w w'

theorem node_leaf (e : EnvP) (k n : Int) (s : List UInt8) (o : Int) (h : k = 1 ∨ k = 2 ∨ k = 3) : nodeP e k n s o (evsP e []) = leafP e k n s := by
  rw [evsP_nil]
  exact if_pos h

theorem below_drew (w : World) : Below w.heap.size w w.drew := (Below.refl _ w).drew

set_option maxHeartbeats 3200000 in
set_option maxRecDepth 20000 in
theorem reval_step (x : GX) (ih : ∀ (i : Nat) (z : GX), x.subs[i]? = some z → REVl z) : REVl x := by
  intro hrx w v e xs zs ns hN hNR hx
  obtain ⟨W0, g1, g2, hW0, hg1, hg2, HX, HE, HB⟩ := two_boxes w v e
  have hG0 := (GV.below hx HB.out (Nat.le_refl _)).mono (Nat.le_refl 0) HB.out.size
  have HN := Lib.hid (fun (W : World) (hb : Below w.heap.size w W) => hN.below hb)
  have HP : evP (envP xs zs ns) x = nodeP (envP xs zs ns) v.kind v.num v.name.data.toList v.op (evsP (envP xs zs ns) x.subs) := by
    obtain ⟨a1, a2, a3, a4, _, _, _, _, _⟩ := hx.out
    rw [a1, a2, a3, a4]
    obtain ⟨k, n, s, o, l, p⟩ := x
    exact evP_mk _ k n s o l p
  have hlen := hx.leneq
  have hcap := hx.lecap
  have hrs : GX.rngs x.subs := by
    obtain ⟨k, n, s, o, l, p⟩ := x
    rw [GX.rng] at hrx
    exact hrx.2.2.2
  have HLEAF := Lib.hid (rleaf_any W0 v e xs zs ns (hN.below HB.out))
  have HPART := Lib.hid (fun (i : Nat) (a : GX) (ha : x.subs[i]? = some a) => hx.part ha)
  have HIH := Lib.hid (fun (i : Nat) (a : GX) (ha : x.subs[i]? = some a) (W : World) (va : EV) (hb : Below w.heap.size w W) (hg : GV w 0 w.heap.size a va) => ih i a ha (rng_get hrs ha) W va e xs zs ns (hN.below hb) hNR ((GV.below hg hb (Nat.le_refl _)).mono (Nat.le_refl _) hb.size))
  have HRR := Lib.hid (fun (i : Nat) (a : GX) (ha : x.subs[i]? = some a) => evP_inR (envP xs zs ns) hNR a (rng_get hrs ha))
  have c := node_ways (envP xs zs ns) v.kind v.num v.name.data.toList v.op x.subs
  have HLF := Lib.hid (node_leaf (envP xs zs ns) v.kind v.num v.name.data.toList v.op)
  obtain ⟨sb, hsb⟩ : ∃ sb, x.subs = sb := ⟨_, rfl⟩
  rw [← HP, ← hlen] at c
  rw [hsb] at c hlen HPART HIH HRR HP
  obtain ⟨⟨N, E⟩, hNE⟩ : ∃ R, evP (envP xs zs ns) x = R := ⟨_, rfl⟩
  rw [hNE] at c HP ⊢
  have HP' := Lib.hid HP
  have HLEN := Lib.hid hlen
  clear hNE HP ih hN hNR hx hG0 hrs hrx hsb hlen
  obtain ⟨nA, nL, nC, mA, mL, mC, aA, aL, aC⟩ := e
  obtain ⟨k, num, S, op, A, len, cap, p⟩ := v
  simp only [EV.val, NV.val] at hW0 HLEAF HPART HIH c HLEN HP' HLF hcap ⊢
  have z0 := HX.out.c0
  have z1 := HX.out.c1
  have z2 := HX.out.c2
  have z3 := HX.out.c3
  have z4 := HX.out.c4
  have z5 := HX.out.c5
  have y0 := HE.out.c0
  have y1 := HE.out.c1
  have y2 := HE.out.c2
  simp only at z0 z1 z2 z3 z4 z5 y0 y1 y2
  have HCAP := Lib.hid hcap
  clear hcap
  go_enter Tryz.func12, Tryz.ntmps12
  go_upto_region 1 with fail
  rw [← hW0, ← hg2, ← hg1]
  clear hW0 hg1 hg2
  by_cases hk3 : (k = 1 ∨ k = 2 ∨ k = 3) ∧ sb = []
  · obtain ⟨hk3, rfl⟩ := hk3
    obtain rfl : len = 0 := HLEN.out
    rw [← HLF.out hk3, ← HP'.out] at HLEAF
    have q1 : decide (1 ≤ k) = true := decide_eq_true (by omega)
    have q2 : decide (k ≤ 3) = true := decide_eq_true (by omega)
    clear c HIH HPART HRR HP' HLF hk3 HN HLEN
    go_wp2_with fail
    refine HLEAF.out.mono ?_
    rintro e w2 ⟨rfl, hb⟩
    have HB2 := Lib.hid (HB.out.trans (hb.mono HB.out.size))
    clear hb HLEAF
    go_wp2_with fail
    go_ret2
    exact ⟨rfl, HB2.out⟩
  · rcases c with ⟨rfl, rfl, hr⟩ | ⟨rfl, rfl, hr⟩ | ⟨rfl, rfl, hr⟩ | ⟨a, rfl, rfl, hr⟩ | ⟨a, b, rfl, rfl, hr⟩ | ⟨hr, hc⟩
    · exact absurd ⟨.inl rfl, rfl⟩ hk3
    · exact absurd ⟨.inr (.inl rfl), rfl⟩ hk3
    · exact absurd ⟨.inr (.inr rfl), rfl⟩ hk3
    · obtain rfl : len = 1 := HLEN.out
      obtain ⟨go, o, va, hA, hgo, hev, hgv⟩ := HPART.out 0 a rfl
      subst hA
      rw [show o + 0 * 6 = o from by omega] at hev
      obtain ⟨x0, x1, x2, x3, x4, x5⟩ := hev.same (HB.out.block go hgo)
      have HC := Lib.hid (fun (W : World) (hb : Below w.heap.size w W) => HIH.out 0 a rfl W va hb hgv)
      have HEV := Lib.hid (fun (W : World) (hb : Below w.heap.size w W) => hev.same (hb.block go hgo))
      obtain ⟨⟨M, F⟩, hMF⟩ : ∃ R, evP (envP xs zs ns) a = R := ⟨_, rfl⟩
      rw [hMF] at hr HC
      obtain ⟨k2, num2, S2, op2, A2, len2, cap2, p2⟩ := va
      simp only at HC HEV x0 x1 x2 x3 x4 x5
      have HO := Lib.hid (fun (W : World) => rone_any op M W)
      have HCC := HCAP.out
      clear hev hgv hgo hMF HIH HPART HRR HP' HLF HLEAF HLEN HN hk3
      have hr' : Hid ((N, E) = oneP op (M, F)) := hr
      clear hr
      have HCd : Hid (Calls Tryz.prog 12 #[.agg #[.int .i64 k2, .int .i64 num2, .string S2, .int .i64 op2, .slice A2 len2 cap2, .int .i64 p2], .agg #[.slice nA nL nC, .slice mA mL mC, .slice aA aL aC]] W0.drew fun r w' => r = .returned (.tuple #[.int .i64 M, .int .i64 F]) ∧ w'.cell? ⟨g1, 4, none⟩ = some (.slice (some ⟨go, o, none⟩) 1 cap) ∧ w'.cell? ⟨go, o, none⟩ = some (.int .i64 k2) ∧ w'.cell? ⟨go, o + 1, none⟩ = some (.int .i64 num2) ∧ w'.cell? ⟨go, o + 2, none⟩ = some (.string S2) ∧ w'.cell? ⟨go, o + 3, none⟩ = some (.int .i64 op2) ∧ w'.cell? ⟨go, o + 4, none⟩ = some (.slice A2 len2 cap2) ∧ w'.cell? ⟨go, o + 5, none⟩ = some (.int .i64 p2) ∧ w'.cell? ⟨g2, 0, none⟩ = some (.slice nA nL nC) ∧ w'.cell? ⟨g2, 1, none⟩ = some (.slice mA mL mC) ∧ w'.cell? ⟨g2, 2, none⟩ = some (.slice aA aL aC) ∧
          Hid (Below w.heap.size w w') ∧ Hid (XpB w' g1 ⟨4, num, S, op, some ⟨go, o, none⟩, 1, cap, p⟩) ∧ Hid (EnB 28 w' g2 ⟨nA, nL, nC, mA, mL, mC, aA, aL, aC⟩)) := by
        have hb1 : Below w.heap.size w W0.drew := HB.out.trans ((below_drew W0).mono HB.out.size)
        have hx1 := HX.out.below (below_drew W0)
        have he1 := HE.out.below (below_drew W0)
        refine (HC.out _ hb1).mono ?_
        rintro r w' ⟨rfl, hb⟩
        have hb2 := hb1.trans (hb.mono hb1.size)
        have hx2 := hx1.below hb
        have he2 := he1.below hb
        obtain ⟨x0, x1, x2, x3, x4, x5⟩ := HEV.out w' hb2
        exact ⟨rfl, hx2.c4, x0, x1, x2, x3, x4, x5, he2.c0, he2.c1, he2.c2, hb2, hx2, he2⟩
      clear HC HEV
      go_upto_region 5 with fail
      go_region_held3 (fun W => W.cell? ⟨g1, 4, none⟩ = some (.slice (some ⟨go, o, none⟩) 1 cap) ∧ W.cell? ⟨go, o, none⟩ = some (.int .i64 k2) ∧ W.cell? ⟨go, o + 1, none⟩ = some (.int .i64 num2) ∧ W.cell? ⟨go, o + 2, none⟩ = some (.string S2) ∧ W.cell? ⟨go, o + 3, none⟩ = some (.int .i64 op2) ∧ W.cell? ⟨go, o + 4, none⟩ = some (.slice A2 len2 cap2) ∧ W.cell? ⟨go, o + 5, none⟩ = some (.int .i64 p2) ∧ W.cell? ⟨g2, 0, none⟩ = some (.slice nA nL nC) ∧ W.cell? ⟨g2, 1, none⟩ = some (.slice mA mL mC) ∧ W.cell? ⟨g2, 2, none⟩ = some (.slice aA aL aC)) (go_keep) (first | (go_at_call 12; refine HCd.out.mono ?_; rintro r w2 ⟨rfl, t4, t0, t1, t2, t3, t5, t6, u0, u1, u2, HB2, HX2, HE2⟩))
      clear t4 t0 t1 t2 t3 t5 t6 u0 u1 u2 x0 x1 x2 x3 x4 x5 z0 z1 z2 z3 z4 z5 y0 y1 y2 HCd
      have z3 := HX2.out.c3
      simp only at z3
      by_cases cF : F = 0
      · subst cF
        have hq := hr'.out
        unfold oneP at hq
        rw [if_pos rfl] at hq
        injection hq with h1 h2
        subst h1 h2
        go_wp2_with fail
        refine (HO.out _).mono ?_
        rintro e w3 ⟨rfl, rfl⟩
        go_wp2_with fail
        go_ret2
        exact ⟨rfl, HB2.out⟩
      · have cF' : (F != 0) = true := by simp [bne, cF]
        have hq := hr'.out
        unfold oneP at hq
        rw [if_neg cF] at hq
        injection hq with h1 h2
        subst h1 h2
        have HCF := Lib.hid cF
        clear cF
        go_wp2_with fail
        go_ret2
        exact ⟨rfl, HB2.out⟩
    · obtain rfl : len = 2 := HLEN.out
      obtain ⟨go, o, va, hA, hgo, hev, hgv⟩ := HPART.out 0 a rfl
      obtain ⟨go', o', vb, hA', hgo', hev', hgv'⟩ := HPART.out 1 b rfl
      subst hA
      obtain ⟨rfl, rfl⟩ : go = go' ∧ o = o' := by
        injection hA' with h
        injection h with h1 h2
        exact ⟨h1, h2⟩
      rw [show o + 0 * 6 = o from by omega] at hev
      rw [show o + 1 * 6 = o + 6 from by omega] at hev'
      obtain ⟨x0, x1, x2, x3, x4, x5⟩ := hev.same (HB.out.block go hgo)
      have HEV0 := Lib.hid (fun (W : World) (hb : Below w.heap.size w W) => hev.same (hb.block go hgo))
      have HEV := Lib.hid (fun (W : World) (hb : Below w.heap.size w W) => hev'.same (hb.block go hgo))
      have HC := Lib.hid (fun (W : World) (hb : Below w.heap.size w W) => HIH.out 0 a rfl W va hb hgv)
      have HC2 := Lib.hid (fun (W : World) (hb : Below w.heap.size w W) => HIH.out 1 b rfl W vb hb hgv')
      have hra := HRR.out 0 a rfl
      have hrb := HRR.out 1 b rfl
      obtain ⟨⟨M, F⟩, hMF⟩ : ∃ R, evP (envP xs zs ns) a = R := ⟨_, rfl⟩
      obtain ⟨⟨M2, F2⟩, hMF2⟩ : ∃ R, evP (envP xs zs ns) b = R := ⟨_, rfl⟩
      rw [hMF] at hr HC hra
      rw [hMF2] at hr HC2 hrb
      obtain ⟨k2, num2, S2, op2, A2, len2, cap2, p2⟩ := va
      obtain ⟨k3, num3, S3, op3, A3, len3, cap3, p3⟩ := vb
      simp only at HC HC2 HEV HEV0 x0 x1 x2 x3 x4 x5
      have HO := Lib.hid (fun (W : World) => rdo_any op M M2 W hra.1 hra.2 hrb.1 hrb.2)
      have HCC := HCAP.out
      clear hev hgv hgo hMF hev' hgv' hgo' hMF2 hA' hra hrb HIH HPART HRR HP' HLF HLEAF HLEN HN hk3
      have HQ : Hid (bothP op (M, F) (M2, F2) = (N, E)) := hr.symm
      clear hr
      have HCd : Hid (Calls Tryz.prog 12 #[.agg #[.int .i64 k2, .int .i64 num2, .string S2, .int .i64 op2, .slice A2 len2 cap2, .int .i64 p2], .agg #[.slice nA nL nC, .slice mA mL mC, .slice aA aL aC]] W0.drew fun r w' => r = .returned (.tuple #[.int .i64 M, .int .i64 F]) ∧ w'.cell? ⟨g1, 4, none⟩ = some (.slice (some ⟨go, o, none⟩) 2 cap) ∧ w'.cell? ⟨go, o, none⟩ = some (.int .i64 k2) ∧ w'.cell? ⟨go, o + 1, none⟩ = some (.int .i64 num2) ∧ w'.cell? ⟨go, o + 2, none⟩ = some (.string S2) ∧ w'.cell? ⟨go, o + 3, none⟩ = some (.int .i64 op2) ∧ w'.cell? ⟨go, o + 4, none⟩ = some (.slice A2 len2 cap2) ∧ w'.cell? ⟨go, o + 5, none⟩ = some (.int .i64 p2) ∧ w'.cell? ⟨g2, 0, none⟩ = some (.slice nA nL nC) ∧ w'.cell? ⟨g2, 1, none⟩ = some (.slice mA mL mC) ∧ w'.cell? ⟨g2, 2, none⟩ = some (.slice aA aL aC) ∧
          Hid (Below w.heap.size w w') ∧ Hid (XpB w' g1 ⟨5, num, S, op, some ⟨go, o, none⟩, 2, cap, p⟩) ∧ Hid (EnB 28 w' g2 ⟨nA, nL, nC, mA, mL, mC, aA, aL, aC⟩)) := by
        have hb1 : Below w.heap.size w W0.drew := HB.out.trans ((below_drew W0).mono HB.out.size)
        have hx1 := HX.out.below (below_drew W0)
        have he1 := HE.out.below (below_drew W0)
        refine (HC.out _ hb1).mono ?_
        rintro r w' ⟨rfl, hb⟩
        have hb2 := hb1.trans (hb.mono hb1.size)
        have hx2 := hx1.below hb
        have he2 := he1.below hb
        obtain ⟨x0, x1, x2, x3, x4, x5⟩ := HEV0.out w' hb2
        exact ⟨rfl, hx2.c4, x0, x1, x2, x3, x4, x5, he2.c0, he2.c1, he2.c2, hb2, hx2, he2⟩
      clear HC HEV0
      go_upto_region 11 with fail
      go_region_held3 (fun W => W.cell? ⟨g1, 4, none⟩ = some (.slice (some ⟨go, o, none⟩) 2 cap) ∧ W.cell? ⟨go, o, none⟩ = some (.int .i64 k2) ∧ W.cell? ⟨go, o + 1, none⟩ = some (.int .i64 num2) ∧ W.cell? ⟨go, o + 2, none⟩ = some (.string S2) ∧ W.cell? ⟨go, o + 3, none⟩ = some (.int .i64 op2) ∧ W.cell? ⟨go, o + 4, none⟩ = some (.slice A2 len2 cap2) ∧ W.cell? ⟨go, o + 5, none⟩ = some (.int .i64 p2) ∧ W.cell? ⟨g2, 0, none⟩ = some (.slice nA nL nC) ∧ W.cell? ⟨g2, 1, none⟩ = some (.slice mA mL mC) ∧ W.cell? ⟨g2, 2, none⟩ = some (.slice aA aL aC)) (go_keep) (first | (go_at_call 12; refine HCd.out.mono ?_; rintro r w2 ⟨rfl, t4, t0, t1, t2, t3, t5, t6, u0, u1, u2, HB2, HX2, HE2⟩))
      clear t4 t0 t1 t2 t3 t5 t6 u0 u1 u2 x0 x1 x2 x3 x4 x5 z0 z1 z2 z3 z4 z5 y0 y1 y2 HCd
      have z3 := HX2.out.c3
      have z4 := HX2.out.c4
      have y0 := HE2.out.c0
      have y1 := HE2.out.c1
      have y2 := HE2.out.c2
      simp only at z3 z4 y0 y1 y2
      by_cases cE : F = 0
      · subst cE
        by_cases c1 : op = 12 ∧ M = 0
        · obtain ⟨rfl, rfl⟩ := c1
          have hq := HQ.out
          unfold bothP at hq
          rw [if_pos rfl, if_pos ⟨rfl, rfl⟩] at hq
          injection hq with h1 h2
          subst h1 h2
          go_wp2_with fail
          go_ret2
          exact ⟨rfl, HB2.out⟩
        · by_cases c2 : op = 13 ∧ M ≠ 0
          · obtain ⟨rfl, hn0⟩ := c2
            have hq := HQ.out
            unfold bothP at hq
            rw [if_pos rfl, if_neg (fun h => by cases h.1), if_pos ⟨rfl, hn0⟩] at hq
            injection hq with h1 h2
            subst h1 h2
            have q1 : (M != 0) = true := by simp [bne, hn0]
            go_wp2_with fail
            go_ret2
            exact ⟨rfl, HB2.out⟩
          · have hq := HQ.out
            unfold bothP at hq
            rw [if_pos rfl, if_neg c1, if_neg c2] at hq
            have HQ2 := Lib.hid hq
            have hcase : (op = 12 ∧ (M == 0) = false) ∨ (op = 13 ∧ (M != 0) = false) ∨ ((op == 12) = false ∧ (op == 13) = false) := by
              by_cases d1 : op = 12
              · exact .inl ⟨d1, by simp only [beq_eq_false_iff_ne, ne_eq]; exact fun h => c1 ⟨d1, h⟩⟩
              · by_cases d2 : op = 13
                · refine .inr (.inl ⟨d2, ?_⟩)
                  have hn : M = 0 := Decidable.byContradiction fun h => c2 ⟨d2, h⟩
                  rw [hn]; rfl
                · exact .inr (.inr ⟨by simpa using d1, by simpa using d2⟩)
            obtain ⟨x0, x1, x2, x3, x4, x5⟩ := HEV.out w2 HB2.out
            clear hq c1 c2 HQ
            have HCd : Hid (Calls Tryz.prog 12 #[.agg #[.int .i64 k3, .int .i64 num3, .string S3, .int .i64 op3, .slice A3 len3 cap3, .int .i64 p3], .agg #[.slice nA nL nC, .slice mA mL mC, .slice aA aL aC]] w2.drew fun r w' => r = .returned (.tuple #[.int .i64 M2, .int .i64 F2]) ∧ w'.cell? ⟨g1, 4, none⟩ = some (.slice (some ⟨go, o, none⟩) 2 cap) ∧ w'.cell? ⟨go, o + 6, none⟩ = some (.int .i64 k3) ∧ w'.cell? ⟨go, o + 6 + 1, none⟩ = some (.int .i64 num3) ∧ w'.cell? ⟨go, o + 6 + 2, none⟩ = some (.string S3) ∧ w'.cell? ⟨go, o + 6 + 3, none⟩ = some (.int .i64 op3) ∧ w'.cell? ⟨go, o + 6 + 4, none⟩ = some (.slice A3 len3 cap3) ∧ w'.cell? ⟨go, o + 6 + 5, none⟩ = some (.int .i64 p3) ∧ w'.cell? ⟨g2, 0, none⟩ = some (.slice nA nL nC) ∧ w'.cell? ⟨g2, 1, none⟩ = some (.slice mA mL mC) ∧ w'.cell? ⟨g2, 2, none⟩ = some (.slice aA aL aC) ∧
                Hid (Below w.heap.size w w') ∧ Hid (XpB w' g1 ⟨5, num, S, op, some ⟨go, o, none⟩, 2, cap, p⟩) ∧ Hid (EnB 28 w' g2 ⟨nA, nL, nC, mA, mL, mC, aA, aL, aC⟩)) := by
              have hb1 : Below w.heap.size w w2.drew := HB2.out.trans ((below_drew w2).mono HB2.out.size)
              have hx1 := HX2.out.below (below_drew w2)
              have he1 := HE2.out.below (below_drew w2)
              refine (HC2.out _ hb1).mono ?_
              rintro r w' ⟨rfl, hb⟩
              have hb2 := hb1.trans (hb.mono hb1.size)
              have hx2 := hx1.below hb
              have he2 := he1.below hb
              obtain ⟨x0, x1, x2, x3, x4, x5⟩ := HEV.out w' hb2
              exact ⟨rfl, hx2.c4, x0, x1, x2, x3, x4, x5, he2.c0, he2.c1, he2.c2, hb2, hx2, he2⟩
            clear HC2 HEV
            rcases hcase with ⟨rfl, q1⟩ | ⟨rfl, q1⟩ | ⟨q1, q2⟩
            all_goals
              go_upto_region 18 with fail
              go_region_held3 (fun W => W.cell? ⟨g1, 4, none⟩ = some (.slice (some ⟨go, o, none⟩) 2 cap) ∧ W.cell? ⟨go, o + 6, none⟩ = some (.int .i64 k3) ∧ W.cell? ⟨go, o + 6 + 1, none⟩ = some (.int .i64 num3) ∧ W.cell? ⟨go, o + 6 + 2, none⟩ = some (.string S3) ∧ W.cell? ⟨go, o + 6 + 3, none⟩ = some (.int .i64 op3) ∧ W.cell? ⟨go, o + 6 + 4, none⟩ = some (.slice A3 len3 cap3) ∧ W.cell? ⟨go, o + 6 + 5, none⟩ = some (.int .i64 p3) ∧ W.cell? ⟨g2, 0, none⟩ = some (.slice nA nL nC) ∧ W.cell? ⟨g2, 1, none⟩ = some (.slice mA mL mC) ∧ W.cell? ⟨g2, 2, none⟩ = some (.slice aA aL aC)) (go_keep) (first | (go_at_call 12; refine HCd.out.mono ?_; rintro r w4 ⟨rfl, t4, t0, t1, t2, t3, t5, t6, u0, u1, u2, HB4, HX4, HE4⟩))
              clear t4 t0 t1 t2 t3 t5 t6 u0 u1 u2 x0 x1 x2 x3 x4 x5 z3 z4 y0 y1 y2 HCd
              have z3 := HX4.out.c3
              simp only at z3
              by_cases cF : F2 = 0
              · subst cF
                have hq := HQ2.out
                rw [if_pos rfl] at hq
                injection hq with h1 h2
                subst h1 h2
                go_wp2_with fail
                refine (HO.out _).mono ?_
                rintro e w5 ⟨rfl, rfl⟩
                go_wp2_with fail
                go_ret2
                exact ⟨rfl, HB4.out⟩
              · have cF' : (F2 != 0) = true := by simp [bne, cF]
                have hq := HQ2.out
                rw [if_neg cF] at hq
                injection hq with h1 h2
                subst h1 h2
                have HCF := Lib.hid cF
                clear cF
                go_wp2_with fail
                go_ret2
                exact ⟨rfl, HB4.out⟩
      · have cF' : (F != 0) = true := by simp [bne, cE]
        have hq := HQ.out
        unfold bothP at hq
        rw [if_neg cE] at hq
        injection hq with h1 h2
        subst h1 h2
        have HCF := Lib.hid cE
        clear cE
        go_wp2_with fail
        go_ret2
        exact ⟨rfl, HB2.out⟩
    · injection hr with h1 h2
      subst h1 h2
      clear HIH HPART HRR HP' HLF HLEAF HN hk3 HLEN HCAP
      rcases hc with ⟨rfl, hn⟩ | ⟨rfl, hn⟩ | ⟨rfl, hn⟩ | ⟨rfl, hn⟩ | ⟨rfl, hn⟩ | ⟨n1, n2, n3, n4, n5⟩
      · have q : ((len : Int) == 0) = false := ne_beq (by omega)
        go_wp2_with fail
        go_ret2
        exact ⟨rfl, HB.out⟩
      · have q : ((len : Int) == 0) = false := ne_beq (by omega)
        go_wp2_with fail
        go_ret2
        exact ⟨rfl, HB.out⟩
      · have q : ((len : Int) == 0) = false := ne_beq (by omega)
        go_wp2_with fail
        go_ret2
        exact ⟨rfl, HB.out⟩
      · have q : ((len : Int) == 1) = false := ne_beq (by omega)
        go_wp2_with fail
        go_ret2
        exact ⟨rfl, HB.out⟩
      · have q : ((len : Int) != 2) = true := by simp only [bne, ne_beq (show (len : Int) ≠ 2 by omega)]; rfl
        go_wp2_with fail
        go_ret2
        exact ⟨rfl, HB.out⟩
      · have q4 : (k == 4) = false := ne_beq n4
        have q5 : (k != 5) = true := by simp only [bne, ne_beq n5]; rfl
        by_cases hk : 1 ≤ k
        · have q1 : decide (1 ≤ k) = true := decide_eq_true hk
          have q2 : decide (k ≤ 3) = false := decide_eq_false (by omega)
          have q2' : ¬ k ≤ 3 := by omega
          clear n1 n2 n3 n4 n5
          go_wp2_with fail
          go_ret2
          exact ⟨rfl, HB.out⟩
        · have q1 : decide (1 ≤ k) = false := decide_eq_false hk
          clear n1 n2 n3 n4 n5
          go_wp2_with fail
          go_ret2
          exact ⟨rfl, HB.out⟩

theorem reval_all : ∀ (m : Nat) (x : GX), SizeOf.sizeOf x ≤ m → REVl x
  | 0, x, hm => by
    obtain ⟨k, n, s, o, l, p⟩ := x
    simp only [GX.mk.sizeOf_spec] at hm
    omega
  | m + 1, x, hm => reval_step x (fun i z hz => reval_all m z (by have := sub_lt hz; omega))

theorem reval_any (x : GX) : REVl x := reval_all _ x (Nat.le_refl _)

end Go.Proofs.YthgodhojhajahaaGreatDoor
