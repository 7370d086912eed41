/-
  The writer of expressions: an expression.
-/
import Derived.Test.YthgodhojhajahaaGreatDoorEwF
namespace Go.Proofs.YthgodhojhajahaaGreatDoor
open Go.RowKit

theorem nodeOk_true {k n : Int} {s : List UInt8} {o : Int} {m : Nat} (h : nodeOk k n s o m = true) :
    (k = 1 ∧ 0 ≤ n ∧ s = [] ∧ o = 0 ∧ m = 0) ∨ (k = 2 ∧ n = 0 ∧ isNm s = true ∧ o = 0 ∧ m = 0) ∨ (k = 3 ∧ n = 0 ∧ isNm s = true ∧ o = 0 ∧ m = 0) ∨
    (k = 4 ∧ n = 0 ∧ s = [] ∧ (o = 14 ∨ o = 15) ∧ m = 1) ∨ (k = 5 ∧ n = 0 ∧ s = [] ∧ rowOf o < 6 ∧ m = 2) := by
  unfold nodeOk at h
  by_cases h1 : k = 1
  · rw [if_pos h1] at h
    simp only [Bool.and_eq_true, decide_eq_true_eq] at h
    exact .inl ⟨h1, h.1.2, h.2, h.1.1.1, h.1.1.2⟩
  · rw [if_neg h1] at h
    by_cases h2 : k = 2 ∨ k = 3
    · rw [if_pos h2] at h
      simp only [Bool.and_eq_true, decide_eq_true_eq] at h
      rcases h2 with h2 | h2
      · exact .inr (.inl ⟨h2, h.1.2, h.2, h.1.1.1, h.1.1.2⟩)
      · exact .inr (.inr (.inl ⟨h2, h.1.2, h.2, h.1.1.1, h.1.1.2⟩))
    · rw [if_neg h2] at h
      by_cases h4 : k = 4
      · rw [if_pos h4] at h
        simp only [Bool.and_eq_true, Bool.or_eq_true, decide_eq_true_eq] at h
        exact .inr (.inr (.inr (.inl ⟨h4, h.1.1.1, h.1.1.2, h.1.2, h.2⟩)))
      · rw [if_neg h4] at h
        split at h
        · rename_i h5
          simp only [Bool.and_eq_true, decide_eq_true_eq] at h
          exact .inr (.inr (.inr (.inr ⟨h5, h.1.1.1, h.1.1.2, h.1.2, h.2⟩)))
        · cases h

theorem sign_one {op : Int} (h : op = 14 ∨ op = 15) : ∃ j : Nat, op = (j : Int) ∧ j < 16 ∧ sgs[j]? = some [if op = 14 then 45 else 33] := by
  rcases h with rfl | rfl
  · exact ⟨14, rfl, by omega, rfl⟩
  · exact ⟨15, rfl, by omega, rfl⟩

theorem sign_both {op : Int} (h : rowOf op < 6) : ∃ j : Nat, op = (j : Int) ∧ j < 16 ∧ sgs[j]? = some (sgOf op) := by
  rcases row_cases h with rfl | rfl | rfl | rfl | rfl | rfl | rfl | rfl | rfl | rfl | rfl | rfl | rfl
  · exact ⟨1, rfl, by omega, rfl⟩
  · exact ⟨2, rfl, by omega, rfl⟩
  · exact ⟨3, rfl, by omega, rfl⟩
  · exact ⟨4, rfl, by omega, rfl⟩
  · exact ⟨5, rfl, by omega, rfl⟩
  · exact ⟨6, rfl, by omega, rfl⟩
  · exact ⟨7, rfl, by omega, rfl⟩
  · exact ⟨8, rfl, by omega, rfl⟩
  · exact ⟨9, rfl, by omega, rfl⟩
  · exact ⟨10, rfl, by omega, rfl⟩
  · exact ⟨11, rfl, by omega, rfl⟩
  · exact ⟨12, rfl, by omega, rfl⟩
  · exact ⟨13, rfl, by omega, rfl⟩

/-- A node without parts. -/
theorem WQ.leaf {B b : Nat} {l : List UInt8} {n d : Nat} {w' : World} {y : Option Ex} {e0 : Ex} {c : Bool} (hx : y = some e0) (h0 : e0.nst = 0) (h1 : e0.size = 1) (hc : decide (List.length (l ++ e0.tx) ≤ 16384) = c)
    (hd : d ≤ 20) (hn : n + 1 ≤ 16384) (hw : WB w' B b (l ++ e0.tx) (n + 1) d) : WQ B b l n d Ex.tx w' c (wrX y n d l.length) := by
  rw [hx]
  rw [List.length_append] at hc
  cases c
  · have h := of_decide_eq_false hc
    exact WQ.no (wrX_not (by omega))
  · have h := of_decide_eq_true hc
    exact WQ.yes e0 (wrX_of (by omega)) hw rfl (by rw [h1])

theorem exs_zero {l : List GX} (h : l.length = 0) : GX.exs l = [] := by rw [List.eq_nil_of_length_eq_zero h, exs_nil]
theorem node_var {s : List UInt8} (h : isNm s = true) : node 2 0 s 0 [] = some (.var s 0) := by
  unfold node
  rw [if_neg (fun h => absurd h.1 (by decide)), if_pos ⟨rfl, rfl, h, rfl, rfl⟩]
theorem node_inn {s : List UInt8} (h : isNm s = true) : node 3 0 s 0 [] = some (.inn s 0) := by
  unfold node
  rw [if_neg (fun h => absurd h.1 (by decide)), if_neg (fun h => absurd h.1 (by decide)), if_pos ⟨rfl, rfl, h, rfl, rfl⟩]
theorem itoa_short (n : Int) (h0 : -9223372036854775808 ≤ n) (h1 : n ≤ 9223372036854775807) : (Lib.itoa n).length ≤ 20 := by
  unfold Lib.itoa
  split
  · have := dec_len (u := n.natAbs) 18 (by omega)
    rw [List.length_cons]; omega
  · have := dec_len (u := n.toNat) 18 (by omega); omega

theorem nm_small {S : ByteArray} (h : isNm S.data.toList = true) : S.size ≤ 24 := by
  obtain ⟨c, r, _, _, _, h2, _⟩ := isNm_parts h
  have h3 : S.data.toList.length = S.size := rfl
  omega

theorem len_two {α : Type} {l : List α} (h : l.length = 2) : ∃ x y, l = [x, y] := by
  match l, h with
  | [x, y], _ => exact ⟨x, y, rfl⟩

set_option maxHeartbeats 3200000 in
set_option maxRecDepth 20000 in
theorem expr_step (u : World) (b : Nat) (hV : Wv u) (x : GX) (hr : x.rng) (ih : ∀ (i : Nat) (y : GX), x.subs[i]? = some y → WOpd u b y) : WExp u b x := by
  intro w v l n d hg hbl hwb hd hn hl
  obtain ⟨kk, nn, ss, oo, subs, pp⟩ := x
  obtain ⟨e0, e1, e2, e3, e4, e5, e6, e7, hrow⟩ := hg.out
  simp only [GX.kind, GX.num, GX.name, GX.op, GX.p, GX.subs] at e0 e1 e2 e3 e4 e5 hrow ih
  rw [GX.rng] at hr
  obtain ⟨hr1, hr2, hr3, hr4⟩ := hr
  rw [ex_mk]
  subst e0 e1 e2 e3
  obtain ⟨g1, hg1⟩ : ∃ g1, g1 = w.heap.size := ⟨_, rfl⟩
  obtain ⟨W0, hW0⟩ : ∃ W0, W0 = w.alloc (.cells #[.int .i64 v.kind, .int .i64 v.num, .string v.name, .int .i64 v.op, .slice v.A v.len v.cap, .int .i64 v.p] 24) := ⟨_, rfl⟩
  have HA : Hid (WAt u b g1 v w W0 l n d) := by rw [hW0, hg1]; exact WAt.new hbl hwb
  have hn1 : g1 ≠ b := by have := hwb.lt; omega
  have hgl : b < g1 := by have := hwb.lt; omega
  have HV := Lib.hid (fun (W : World) (hb : Below u.heap.size u W) => hV.below hb)
  have HFO := Lib.hid (fun (W : World) (hK : KwAt W) => formed_any W v hr3 hK)
  have HIH := Lib.hid ih
  have HROW := Lib.hid hrow
  have HSUB := Lib.hid e5
  have HRG := Lib.hid hr1
  have HN1 := Lib.hid hn1
  have HGL := Lib.hid hgl
  have HD := Lib.hid (And.intro hd (And.intro hn hl))
  obtain ⟨Y, hY⟩ : ∃ Y, node v.kind v.num v.name.data.toList v.op (GX.exs subs) = Y := ⟨_, rfl⟩
  rw [hY]
  have HY := Lib.hid hY
  have HFULL : Hid (¬ n + 1 ≤ 16384 → wrX Y n d l.length = none) := fun h => by
    have := wrX_full (x := GX.mk v.kind v.num v.name.data.toList v.op subs 0) (d := d) (L := l.length) h
    rw [ex_mk, hY] at this
    exact this
  obtain ⟨k, num, S, op, A, len, cap, p⟩ := v
  simp only [EV.val] at HFO ⊢
  simp only at HY HSUB HRG HROW hW0
  have HCN := Lib.hid (count_any W0 u.heap.size b l n d HA.out.wb (by omega))
  obtain ⟨c1, hc1⟩ : ∃ c1, decide (n + 1 ≤ 16384) = c1 := ⟨_, rfl⟩
  rw [hc1] at HCN
  have HC1 := Lib.hid hc1
  obtain ⟨c2, hc2⟩ : ∃ c2, nodeOk k num S.data.toList op len = c2 := ⟨_, rfl⟩
  rw [hc2] at HFO
  have HC2 := Lib.hid hc2
  clear hg hbl hwb hd hn hl hV ih hrow e4 e5 e6 e7 hr1 hr2 hr3 hr4 hn1 hgl hY hc1 hc2
  go_enter Tryz.func26, Tryz.ntmps26
  go_upto_region 1 with fail
  rw [← hW0, ← hg1]
  clear hW0 hg1
  go_wp2_with fail
  refine HCN.out.mono ?_
  rintro e w1 ⟨rfl, hw, hk⟩
  have HA1 := Lib.hid (HA.out.go HN1.out hk hw)
  clear hw hk HCN HA
  cases c1
  · go_wp2_with fail
    go_ret
    exact ⟨false, rfl, WQ.no (HFULL.out (of_decide_eq_false HC1.out)), HA1.out.wk⟩
  have z0 := HA1.out.xp.c0
  have z1 := HA1.out.xp.c1
  have z2 := HA1.out.xp.c2
  have z3 := HA1.out.xp.c3
  have z4 := HA1.out.xp.c4
  have z5 := HA1.out.xp.c5
  simp only at z0 z1 z2 z3 z4 z5
  have HF := Lib.hid (HFO.out w1 (HV.out w1 HA1.out.bl).kw)
  clear HFO HFULL
  go_wp2_with fail
  refine HF.out.mono ?_
  rintro e w2 ⟨rfl, hb⟩
  have HA2 := Lib.hid (HA1.out.below HN1.out hb)
  clear hb HF HA1 z0 z1 z2 z3 z4 z5
  cases c2
  · have HNO : Hid (Y = none) := by
      show _ = _
      rw [← HY.out]
      exact node_bad (by rw [exs_len, ← HSUB.out]; exact HC2.out)
    go_wp2_with fail
    go_ret
    exact ⟨false, rfl, WQ.no (by rw [HNO.out]; rfl), HA2.out.wk⟩
  have z0 := HA2.out.xp.c0
  have z1 := HA2.out.xp.c1
  have z2 := HA2.out.xp.c2
  have z3 := HA2.out.xp.c3
  have z4 := HA2.out.xp.c4
  have z5 := HA2.out.xp.c5
  simp only at z0 z1 z2 z3 z4 z5
  rcases nodeOk_true HC2.out with ⟨rfl, h1, h2, rfl, rfl⟩ | ⟨rfl, rfl, h2, rfl, rfl⟩ | ⟨rfl, rfl, h2, rfl, rfl⟩ | ⟨rfl, rfl, h2, h3, rfl⟩ | ⟨rfl, rfl, h2, h3, rfl⟩
  · have HT := Lib.hid (text_any num w2 HRG.out.1 HRG.out.2 (HV.out w2 HA2.out.bl).pw)
    obtain ⟨T, hT⟩ : ∃ T : ByteArray, (⟨(Lib.itoa num).toArray⟩ : ByteArray) = T := ⟨_, rfl⟩
    rw [hT] at HT
    have HTT := Lib.hid hT
    have H12 := Lib.hid (And.intro h1 h2)
    clear h1 h2 hT
    go_wp2_with fail
    refine HT.out.mono ?_
    rintro e w3 ⟨rfl, hb⟩
    have HA3 := Lib.hid (HA2.out.below HN1.out hb)
    clear hb HT HA2
    obtain ⟨g2, hg2⟩ : ∃ g2, g2 = w3.heap.size := ⟨_, rfl⟩
    obtain ⟨W4, hW4⟩ : ∃ W4, W4 = w3.alloc (.cells #[.string T] 9) := ⟨_, rfl⟩
    have HA4 : Hid (WAt u b g1 ⟨1, num, S, 0, A, 0, cap, p⟩ w W4 l (n + 1) d) := by rw [hW4]; exact HA3.out.alloc HN1.out _
    have HC := Lib.hid (put_any W4 u.heap.size b g2 1 l (n + 1) d [T] HA4.out.wb (by rw [hW4, hg2]; exact StR.one w3 T) rfl (by have := HA3.out.wb.lt; omega)
      (fun t ht => by rw [List.mem_singleton.1 ht, ← HTT.out]; show (Lib.itoa num).toArray.size ≤ _; rw [List.size_toArray]; have := itoa_short num HRG.out.1 HRG.out.2; omega) (by omega) (by have := HD.out.2.2; omega) HA4.out.bl.size)
    rw [flat_cons, flat_nil, List.append_nil] at HC
    obtain ⟨c3, hc3⟩ : ∃ c3, decide (List.length (l ++ T.data.toList) ≤ 16384) = c3 := ⟨_, rfl⟩
    rw [hc3] at HC
    have HC3 := Lib.hid hc3
    clear hc3
    go_wp2_with fail
    rw [← hW4, ← hg2]
    clear hW4 hg2
    refine HC.out.mono ?_
    rintro e w5 ⟨rfl, hw, hk⟩
    have HW := Lib.hid hw
    have HK := Lib.hid hk
    clear hw hk HC
    go_wp2_with fail
    go_ret
    refine ⟨c3, rfl, ?_, HA4.out.wk.trans HK.out⟩
    have hYY : Y = some (.int num 0) := by
      rw [← HY.out, H12.out.2, exs_zero (HSUB.out.symm)]
      exact if_pos ⟨rfl, H12.out.1, HRG.out.2, rfl, rfl, rfl⟩
    have eT : T.data.toList = (Ex.int num 0).tx := by rw [← HTT.out]; rfl
    have h3 := HC3.out
    have h4 := HW.out
    rw [eT] at h3 h4
    exact WQ.leaf hYY rfl rfl h3 HD.out.1 (of_decide_eq_true HC1.out) h4
  · have H2 := Lib.hid h2
    clear h2
    obtain ⟨g2, hg2⟩ : ∃ g2, g2 = w2.heap.size := ⟨_, rfl⟩
    obtain ⟨W4, hW4⟩ : ∃ W4, W4 = w2.alloc (.cells #[.string S] 9) := ⟨_, rfl⟩
    have HA4 : Hid (WAt u b g1 ⟨2, 0, S, 0, A, 0, cap, p⟩ w W4 l (n + 1) d) := by rw [hW4]; exact HA2.out.alloc HN1.out _
    have HC := Lib.hid (put_any W4 u.heap.size b g2 1 l (n + 1) d [S] HA4.out.wb (by rw [hW4, hg2]; exact StR.one w2 S) rfl (by have := HA2.out.wb.lt; omega)
      (fun t ht => by
        have := nm_small H2.out
        simp only [List.mem_cons, List.not_mem_nil, or_false] at ht
        subst ht; omega) (by omega) (by have := HD.out.2.2; omega) HA4.out.bl.size)
    have hfl : flat [S] = (Ex.var S.data.toList 0).tx := by rw [flat_cons, flat_nil, List.append_nil]; rfl
    rw [hfl] at HC
    obtain ⟨c3, hc3⟩ : ∃ c3, decide (List.length (l ++ (Ex.var S.data.toList 0).tx) ≤ 16384) = c3 := ⟨_, rfl⟩
    rw [hc3] at HC
    have HC3 := Lib.hid hc3
    clear hc3 hfl
    go_wp2_with fail
    rw [← hW4, ← hg2]
    clear hW4 hg2
    refine HC.out.mono ?_
    rintro e w5 ⟨rfl, hw, hk⟩
    have HW := Lib.hid hw
    have HK := Lib.hid hk
    clear hw hk HC
    go_wp2_with fail
    go_ret
    refine ⟨c3, rfl, ?_, HA4.out.wk.trans HK.out⟩
    have hYY : Y = some (.var S.data.toList 0) := by
      rw [← HY.out, exs_zero (HSUB.out.symm)]
      exact node_var H2.out
    exact WQ.leaf hYY rfl rfl HC3.out HD.out.1 (of_decide_eq_true HC1.out) HW.out
  · have H2 := Lib.hid h2
    clear h2
    obtain ⟨g2, hg2⟩ : ∃ g2, g2 = w2.heap.size := ⟨_, rfl⟩
    obtain ⟨W4, hW4⟩ : ∃ W4, W4 = w2.alloc (.cells #[.string ⟨#[105, 110, 40]⟩, .string S, .string ⟨#[41]⟩] 9) := ⟨_, rfl⟩
    have HA4 : Hid (WAt u b g1 ⟨3, 0, S, 0, A, 0, cap, p⟩ w W4 l (n + 1) d) := by rw [hW4]; exact HA2.out.alloc HN1.out _
    have HC := Lib.hid (put_any W4 u.heap.size b g2 3 l (n + 1) d [⟨#[105, 110, 40]⟩, S, ⟨#[41]⟩] HA4.out.wb (by rw [hW4, hg2]; exact StR.three w2 _ _ _) rfl (by have := HA2.out.wb.lt; omega)
      (fun t ht => by
        have := nm_small H2.out
        simp only [List.mem_cons, List.not_mem_nil, or_false] at ht
        rcases ht with rfl | rfl | rfl
        · decide
        · omega
        · decide) (by omega) (by have := HD.out.2.2; omega) HA4.out.bl.size)
    have hfl : flat [⟨#[105, 110, 40]⟩, S, ⟨#[41]⟩] = (Ex.inn S.data.toList 0).tx := by rw [flat_cons, flat_cons, flat_cons, flat_nil, List.append_nil]; rfl
    rw [hfl] at HC
    obtain ⟨c3, hc3⟩ : ∃ c3, decide (List.length (l ++ (Ex.inn S.data.toList 0).tx) ≤ 16384) = c3 := ⟨_, rfl⟩
    rw [hc3] at HC
    have HC3 := Lib.hid hc3
    clear hc3 hfl
    go_wp2_with fail
    rw [← hW4, ← hg2]
    clear hW4 hg2
    refine HC.out.mono ?_
    rintro e w5 ⟨rfl, hw, hk⟩
    have HW := Lib.hid hw
    have HK := Lib.hid hk
    clear hw hk HC
    go_wp2_with fail
    go_ret
    refine ⟨c3, rfl, ?_, HA4.out.wk.trans HK.out⟩
    have hYY : Y = some (.inn S.data.toList 0) := by
      rw [← HY.out, exs_zero (HSUB.out.symm)]
      exact node_inn H2.out
    exact WQ.leaf hYY rfl rfl HC3.out HD.out.1 (of_decide_eq_true HC1.out) HW.out
  · obtain ⟨z, rfl⟩ := List.length_eq_one_iff.1 HSUB.out.symm
    obtain ⟨go, o, v', rfl, _, hgo, hev, hgz⟩ := HROW.out.get 0 z rfl
    have eo : o + (0 + 0) * 6 = o := by omega
    rw [eo] at hev
    have HEV := Lib.hid (fun (W : World) (hb : Below u.heap.size u W) => hev.same (hb.block go hgo))
    have HOP := Lib.hid (fun (W : World) (l : List UInt8) (n d : Nat) (bl : Below u.heap.size u W) (wb : WB W u.heap.size b l n d) (hd : d ≤ 20) (hn : n ≤ 16384) (hl : l.length ≤ 16384) => HIH.out 0 z rfl W v' 7 l n d hgz bl wb hd hn hl)
    obtain ⟨j, rfl, hj, hsg⟩ := sign_one h3
    have HON := Lib.hid (wr_one z (j : Int) h3 n d l.length)
    have hYY : node 4 0 [] (j : Int) [z.ex] = Y := by
      have h := HY.out
      rw [h2, exs_one] at h
      exact h
    rw [hYY] at HON
    have HTX := Lib.hid (fun e => one_tx (j : Int) e)
    have HPO := Lib.hid (fun (e : Ex) (h : z.ex = some e) => pb_one h)
    obtain ⟨cs, hcs⟩ : ∃ cs : UInt8, (if (j : Int) = 14 then 45 else 33) = cs := ⟨_, rfl⟩
    rw [hcs] at hsg HTX
    have sgc := (HV.out w2 HA2.out.bl).sg.cell hsg
    obtain ⟨SG, hSG⟩ : ∃ SG : ByteArray, (⟨[cs].toArray⟩ : ByteArray) = SG := ⟨_, rfl⟩
    rw [hSG] at sgc
    have hSL : SG.data.toList = [cs] := by rw [← hSG]
    have hSZ : SG.size = 1 := by rw [← hSG]; rfl
    have hj' : (j : Int) < 16 := by omega
    obtain ⟨P, hP⟩ : ∃ P, pb z 7 = P := ⟨_, rfl⟩
    rw [hP] at HOP HON HPO
    obtain ⟨q7, hq7⟩ : ∃ q : Int, ((7 : Nat) : Int) = q := ⟨_, rfl⟩
    rw [hq7] at HOP
    obtain rfl : q7 = 7 := hq7.symm
    obtain ⟨k', num', S', op', A', len', cap', p'⟩ := v'
    simp only [EV.val] at HOP
    have HEN := Lib.hid (enter_any w2 u.heap.size b l (n + 1) d SG HA2.out.wb (by have := HD.out.1; omega) (by omega) (by have := HD.out.2.2; omega) HA2.out.bl.size)
    rw [hSL] at HEN
    obtain ⟨c3, hc3⟩ : ∃ c3, decide (d + 1 ≤ 20 ∧ List.length (l ++ [cs]) ≤ 16384) = c3 := ⟨_, rfl⟩
    rw [hc3] at HEN
    have HC3 := Lib.hid hc3
    clear hc3 hq7 hP hcs hSG hSL hSZ hsg hYY h2 h3 hev hgz eo hgo hj
    go_wp2_with fail
    refine HEN.out.mono ?_
    rintro e w3 ⟨rfl, hw, hk⟩
    have HW := Lib.hid hw
    have HK := Lib.hid hk
    clear hw hk HEN z0 z1 z2 z3 z4 z5 sgc
    cases c3
    · go_wp2_with fail
      go_ret
      refine ⟨false, rfl, WQ.no (HON.out.1 (fun h => ?_)), HA2.out.wk.trans HK.out⟩
      have := of_decide_eq_false HC3.out
      rw [List.length_append, List.length_singleton] at this
      exact this h
    have HD3 := Lib.hid (of_decide_eq_true HC3.out)
    have HA3 := Lib.hid (HA2.out.go HN1.out HK.out (HW.out HD3.out.1))
    have HO := Lib.hid (HOP.out w3 (l ++ [cs]) (n + 1) (d + 1) HA3.out.bl HA3.out.wb HD3.out.1 (of_decide_eq_true HC1.out) HD3.out.2)
    have e5 : (l ++ [cs]).length = l.length + 1 := by rw [List.length_append, List.length_singleton]
    rw [e5] at HO
    have z4 := HA3.out.xp.c4
    simp only at z4
    obtain ⟨y0, y1, y2, y3, y4, y5⟩ := HEV.out w3 HA3.out.bl
    simp only at y0 y1 y2 y3 y4 y5
    clear HA2 HK HW HOP e5
    go_wp2_with fail
    refine HO.out.mono ?_
    rintro e w4 ⟨r, rfl, hq, hk⟩
    have HQ := Lib.hid hq
    have HK := Lib.hid hk
    clear hq hk HO z4 y0 y1 y2 y3 y4 y5
    cases r
    · have HNO : Hid (wrP P z.ex (n + 1) (d + 1) (l.length + 1) = none) := by
        rcases HQ.out with ⟨_, h⟩ | ⟨h, _⟩
        · exact h
        · cases h
      go_wp2_with fail
      go_ret
      exact ⟨false, rfl, WQ.no (HON.out.2.1 HNO.out), HA3.out.wk.trans HK.out⟩
    · obtain ⟨e, he, hwb⟩ : ∃ e, wrP P z.ex (n + 1) (d + 1) (l.length + 1) = some e ∧ WB w4 u.heap.size b (l ++ [cs] ++ par P e.tx) (n + 1 + e.size) (d + 1) := by
        rcases HQ.out with ⟨h, _⟩ | ⟨_, h⟩
        · cases h
        · exact h
      have HS := Lib.hid (wrP_some he)
      have HEE := Lib.hid he
      have HA4 := Lib.hid (HA3.out.go HN1.out HK.out hwb)
      have HL := Lib.hid (leave_any w4 u.heap.size b _ _ d ⟨#[]⟩ HA4.out.wb (by have := HD.out.1; omega) (by decide) (by have := HS.out.2.2.1; simp only [List.length_append, List.length_singleton]; omega) HA4.out.bl.size)
      have e41 : (⟨#[]⟩ : ByteArray).data.toList = [] := rfl
      rw [e41, List.append_nil] at HL
      have hdec : decide (List.length (l ++ [cs] ++ par P e.tx) ≤ 16384) = true := decide_eq_true (by
        have := HS.out.2.2.1
        simp only [List.length_append, List.length_singleton]
        omega)
      rw [hdec] at HL
      clear he hwb HQ HK HA3 e41 hdec
      go_wp2_with fail
      refine HL.out.mono ?_
      rintro _ w5 ⟨rfl, hw, hk⟩
      have HW := Lib.hid hw
      have HK := Lib.hid hk
      clear hw hk HL
      go_wp2_with fail
      go_ret
      refine ⟨true, rfl, ?_, HA4.out.wk.trans HK.out⟩
      refine WQ.yes _ (HON.out.2.2 e HEE.out) HW.out ?_ ?_
      · rw [HTX.out, HPO.out e HS.out.1, List.append_assoc]
        rfl
      · rw [one_size]; omega
  · obtain ⟨z, zz, rfl⟩ := len_two HSUB.out.symm
    obtain ⟨go, o, v', rfl, _, hgo, hev, hgz⟩ := HROW.out.get 0 z rfl
    obtain ⟨go', o', v2, hA', _, _, hev', hgz'⟩ := HROW.out.get 1 zz rfl
    obtain ⟨rfl, rfl⟩ : go' = go ∧ o' = o := by
      injection hA' with hA'
      injection hA' with h1 h2
      exact ⟨h1.symm, h2.symm⟩
    have eo : o' + (0 + 0) * 6 = o' := by omega
    have eo' : o' + (0 + 1) * 6 = o' + 6 := by omega
    rw [eo] at hev
    rw [eo'] at hev'
    have HEV := Lib.hid (fun (W : World) (hb : Below u.heap.size u W) => hev.same (hb.block go' hgo))
    have HEV' := Lib.hid (fun (W : World) (hb : Below u.heap.size u W) => hev'.same (hb.block go' hgo))
    have hbnd : bnd op = rowOf op + 1 := if_pos h3
    have HOP := Lib.hid (fun (W : World) (l : List UInt8) (n d : Nat) (bl : Below u.heap.size u W) (wb : WB W u.heap.size b l n d) (hd : d ≤ 20) (hn : n ≤ 16384) (hl : l.length ≤ 16384) => HIH.out 0 z rfl W v' (bnd op) l n d hgz bl wb hd hn hl)
    have HOQ := Lib.hid (fun (W : World) (l : List UInt8) (n d : Nat) (bl : Below u.heap.size u W) (wb : WB W u.heap.size b l n d) (hd : d ≤ 20) (hn : n ≤ 16384) (hl : l.length ≤ 16384) => HIH.out 1 zz rfl W v2 (bnd op + 1) l n d hgz' bl wb hd hn hl)
    have HON := Lib.hid (wr_both z zz op h3 n d l.length)
    have hYY : node 5 0 [] op [z.ex, zz.ex] = Y := by
      have h := HY.out
      rw [h2, exs_two] at h
      exact h
    rw [hYY] at HON
    rw [show rowOf op + 2 = bnd op + 1 by rw [hbnd], ← hbnd] at HON
    have HSL := Lib.hid (sg_len h3)
    have HBI := Lib.hid (binding_any op w2)
    obtain ⟨j, rfl, hj, hsg⟩ := sign_both h3
    have HBS := Lib.hid (fun (x y : Ex) => both_size (j : Int) x y)
    obtain ⟨SG, hSG⟩ : ∃ SG : ByteArray, (⟨(sgOf (j : Int)).toArray⟩ : ByteArray) = SG := ⟨_, rfl⟩
    have hSL : SG.data.toList = sgOf (j : Int) := by rw [← hSG]
    have HSGC := Lib.hid (fun (W : World) (hb : Below u.heap.size u W) => (HV.out W hb).sg.cell hsg)
    rw [hSG] at HSGC
    obtain ⟨sl, hsl⟩ : ∃ sl, sgOf (j : Int) = sl := ⟨_, rfl⟩
    rw [hsl] at hSL HON HSL
    have HSG := Lib.hid hSL
    have hj' : (j : Int) < 16 := by omega
    have hbl : bnd (j : Int) ≤ 6 := by rw [hbnd]; omega
    obtain ⟨q, hq⟩ : ∃ q, bnd (j : Int) = q := ⟨_, rfl⟩
    rw [hq] at HOP HOQ HON HBI hbl
    have hbl' : (q : Int) ≤ 6 := by omega
    have eq1 : ((q + 1 : Nat) : Int) = (q : Int) + 1 := by omega
    rw [eq1] at HOQ
    obtain ⟨P, hP⟩ : ∃ P, pb z q = P := ⟨_, rfl⟩
    obtain ⟨P', hP'⟩ : ∃ P, pb zz (q + 1) = P := ⟨_, rfl⟩
    rw [hP] at HOP HON
    rw [hP'] at HOQ HON
    obtain ⟨k', num', S', op', A', len', cap', p'⟩ := v'
    obtain ⟨k2, num2, S2, op2, A2, len2, cap2, p2⟩ := v2
    simp only [EV.val] at HOP HOQ
    have HO := Lib.hid (HOP.out w2 l (n + 1) d HA2.out.bl HA2.out.wb HD.out.1 (of_decide_eq_true HC1.out) HD.out.2.2)
    obtain ⟨y0, y1, y2, y3, y4, y5⟩ := HEV.out w2 HA2.out.bl
    simp only at y0 y1 y2 y3 y4 y5
    clear hP hP' hq eq1 hSL hSG hsl hsg hYY h2 h3 hev hev' hgz hgz' eo eo' hgo hj hA' hbnd hbl HOP
    go_wp2_with fail
    refine HBI.out.mono ?_
    rintro e w3 ⟨rfl, rfl⟩
    go_wp2_with fail
    refine HO.out.mono ?_
    rintro e w4 ⟨r, rfl, hq, hk⟩
    have HQ := Lib.hid hq
    have HK := Lib.hid hk
    clear hq hk HO HBI z0 z1 z2 z3 z4 z5 y0 y1 y2 y3 y4 y5
    cases r
    · have HNO : Hid (wrP P z.ex (n + 1) d l.length = none) := by
        rcases HQ.out with ⟨_, h⟩ | ⟨h, _⟩
        · exact h
        · cases h
      go_wp2_with fail
      go_ret
      exact ⟨false, rfl, WQ.no (HON.out.1 HNO.out), HA2.out.wk.trans HK.out⟩
    obtain ⟨e, he, hwb⟩ : ∃ e, wrP P z.ex (n + 1) d l.length = some e ∧ WB w4 u.heap.size b (l ++ par P e.tx) (n + 1 + e.size) d := by
      rcases HQ.out with ⟨h, _⟩ | ⟨_, h⟩
      · cases h
      · exact h
    have HS := Lib.hid (wrP_some he)
    have HON2 := Lib.hid (HON.out.2 e he)
    have HA4 := Lib.hid (HA2.out.go HN1.out HK.out hwb)
    obtain ⟨g2, hg2⟩ : ∃ g2, g2 = w4.heap.size := ⟨_, rfl⟩
    obtain ⟨W5, hW5⟩ : ∃ W5, W5 = w4.alloc (.cells #[.string ⟨#[32]⟩, .string SG, .string ⟨#[32]⟩] 9) := ⟨_, rfl⟩
    have HA5 : Hid (WAt u b g1 ⟨5, 0, S, (j : Int), some ⟨go', o', none⟩, 2, cap, p⟩ w W5 (l ++ par P e.tx) (n + 1 + e.size) d) := by rw [hW5]; exact HA4.out.alloc HN1.out _
    have HC := Lib.hid (put_any W5 u.heap.size b g2 3 (l ++ par P e.tx) (n + 1 + e.size) d [⟨#[32]⟩, SG, ⟨#[32]⟩] HA5.out.wb (by rw [hW5, hg2]; exact StR.three w4 _ _ _) rfl (by have := HA4.out.wb.lt; omega)
      (fun t ht => by
        have h1 : SG.data.toList.length = SG.size := rfl
        rw [HSG.out] at h1
        have := HSL.out
        simp only [List.mem_cons, List.not_mem_nil, or_false] at ht
        rcases ht with rfl | rfl | rfl
        · decide
        · omega
        · decide) (by omega) (by have := HS.out.2.2.1; rw [List.length_append]; omega) HA5.out.bl.size)
    have hfl : flat [⟨#[32]⟩, SG, ⟨#[32]⟩] = 32 :: (sl ++ [32]) := by rw [flat_cons, flat_cons, flat_cons, flat_nil, List.append_nil, HSG.out]; rfl
    rw [hfl] at HC
    obtain ⟨c3, hc3⟩ : ∃ c3, decide (List.length (l ++ par P e.tx ++ (32 :: (sl ++ [32]))) ≤ 16384) = c3 := ⟨_, rfl⟩
    rw [hc3] at HC
    have HC3 : Hid (decide (l.length + (par P e.tx).length + (sl.length + 2) ≤ 16384) = c3) := by
      show _ = _
      rw [← hc3]
      congr 1
      simp only [List.length_append, List.length_cons, List.length_nil]
      all_goals
        apply propext
        constructor <;> intro h <;> omega
    have z3 := HA4.out.xp.c3
    simp only at z3
    have sgc := HSGC.out w4 HA4.out.bl
    clear he hwb HQ HK HA2 HA4 hfl hc3
    go_wp2_with fail
    rw [← hW5, ← hg2]
    clear hW5 hg2
    refine HC.out.mono ?_
    rintro _ w6 ⟨rfl, hw, hk⟩
    have HA6 := Lib.hid (HA5.out.go HN1.out hk hw)
    clear hw hk HC HA5 z3 sgc
    cases c3
    · go_wp2_with fail
      go_ret
      exact ⟨false, rfl, WQ.no (HON2.out.1 (of_decide_eq_false HC3.out)), HA6.out.wk⟩
    have HO := Lib.hid (HOQ.out w6 (l ++ par P e.tx ++ (32 :: (sl ++ [32]))) (n + 1 + e.size) d HA6.out.bl HA6.out.wb HD.out.1 HS.out.2.2.2 (by
      have := of_decide_eq_true HC3.out
      simp only [List.length_append, List.length_cons, List.length_nil]
      omega))
    have e5 : (l ++ par P e.tx ++ (32 :: (sl ++ [32]))).length = l.length + (par P e.tx).length + (sl.length + 2) := by
      simp only [List.length_append, List.length_cons, List.length_nil]
      all_goals omega
    rw [e5] at HO
    have z4 := HA6.out.xp.c4
    simp only at z4
    obtain ⟨y0, y1, y2, y3, y4, y5⟩ := HEV'.out w6 HA6.out.bl
    simp only at y0 y1 y2 y3 y4 y5
    clear HOQ e5
    go_wp2_with fail
    refine HO.out.mono ?_
    rintro _ w7 ⟨r, rfl, hq, hk⟩
    have HQ := Lib.hid hq
    have HK := Lib.hid hk
    clear hq hk HO z4 y0 y1 y2 y3 y4 y5
    go_wp2_with fail
    go_ret
    refine ⟨r, rfl, ?_, HA6.out.wk.trans HK.out⟩
    rcases HQ.out with ⟨rfl, h⟩ | ⟨rfl, e', h, hw⟩
    · exact WQ.no (HON2.out.2.1 h)
    · obtain ⟨h1, h2⟩ := HON2.out.2.2 e' h
      refine WQ.yes _ h1 hw ?_ ?_
      · rw [h2]
        simp only [List.append_assoc, List.cons_append, List.nil_append]
      · rw [HBS.out]; omega

theorem rngs_get : ∀ {l : List GX} {i : Nat} {y : GX}, GX.rngs l → l[i]? = some y → y.rng := @rng_get

theorem expr_all (u : World) (b : Nat) (hV : Wv u) : ∀ (m : Nat) (x : GX), SizeOf.sizeOf x ≤ m → x.rng → WExp u b x
  | 0, x, hm, _ => by
    obtain ⟨k, n, s, o, l, p⟩ := x
    simp only [GX.mk.sizeOf_spec] at hm
    omega
  | m + 1, x, hm, hr => expr_step u b hV x hr (fun i y hi => operand_any u b y (expr_all u b hV m y (by have := sub_size hi; omega) (by
      obtain ⟨k, n, s, o, l, p⟩ := x
      rw [GX.rng] at hr
      exact rng_get hr.2.2.2 hi)))

theorem expr_any (u : World) (b : Nat) (hV : Wv u) (x : GX) (hr : x.rng) : WExp u b x := expr_all u b hV _ x (Nat.le_refl _) hr

end Go.Proofs.YthgodhojhajahaaGreatDoor
