/-
  The document's shape: whether a tree has the form of one.
-/
import Derived.Test.YtlfmciocoijnbaaGreatDoorEqC
namespace Go.Proofs.YtlfmciocoijnbaaGreatDoor
open Go.RowKit

theorem exs_get : ∀ {l : List GX} {j : Nat} {z : GX}, l[j]? = some z → (GX.exs l)[j]? = some z.ex
  | [], j, z, h => by simp at h
  | y :: l, 0, z, h => by
    have : y = z := by simpa using h
    subst this
    rw [GX.exs]; rfl
  | y :: l, j + 1, z, h => by
    rw [GX.exs]
    simpa using exs_get (l := l) (j := j) (by simpa using h)

/-- A part that has not the form. -/
theorem ex_part {x : GX} {j : Nat} {z : GX} (h : x.subs[j]? = some z) (hz : z.ex = none) : x.ex = none := by
  obtain ⟨k, n, s, o, l, p⟩ := x
  have hg := exs_get (show l[j]? = some z from h)
  rw [hz] at hg
  rw [ex_mk]
  cases hn : node k n s o (GX.exs l) with
  | none => rfl
  | some e =>
    exfalso
    have hl : ∀ y ∈ GX.exs l, y ≠ none := by
      rcases node_some hn with ⟨_, _, _, _, _, c, _⟩ | ⟨_, _, _, _, c, _⟩ | ⟨_, _, _, _, c, _⟩ | ⟨x, _, _, _, _, c, _⟩ | ⟨x, y, _, _, _, _, c, _⟩ <;> rw [c] <;> intro y hy
      · cases hy
      · cases hy
      · cases hy
      · rw [List.mem_singleton.1 hy]; simp
      · simp only [List.mem_cons, List.not_mem_nil, or_false] at hy
        rcases hy with rfl | rfl <;> simp
    exact hl none (List.mem_of_getElem? hg) rfl

/-- All parts have it. -/
theorem ex_parts {x : GX} (hr : x.rng) (h : ∀ (j : Nat) (z : GX), x.subs[j]? = some z → z.ex.isSome = true) : x.ex.isSome = nodeOk x.kind x.num x.name x.op x.subs.length := by
  obtain ⟨k, n, s, o, l, p⟩ := x
  rw [GX.rng] at hr
  rw [ex_mk]
  show (node k n s o (GX.exs l)).isSome = nodeOk k n s o l.length
  cases hn : nodeOk k n s o l.length with
  | false => rw [node_bad (by rw [exs_len]; exact hn)]; rfl
  | true =>
    rcases nodeOk_true hn with ⟨rfl, a, rfl, rfl, c⟩ | ⟨rfl, rfl, a, rfl, c⟩ | ⟨rfl, rfl, a, rfl, c⟩ | ⟨rfl, rfl, rfl, a, c⟩ | ⟨rfl, rfl, rfl, a, c⟩
    · rw [exs_zero c]
      unfold node
      rw [if_pos ⟨rfl, a, hr.1.2, rfl, rfl, rfl⟩]; rfl
    · rw [exs_zero c, node_var a]; rfl
    · rw [exs_zero c, node_inn a]; rfl
    · obtain ⟨z, rfl⟩ := List.length_eq_one_iff.1 c
      obtain ⟨e, he⟩ := Option.isSome_iff_exists.1 (h 0 z rfl)
      rw [exs_one, he, node_one _ _ a]; rfl
    · obtain ⟨z, zz, rfl⟩ := len_two c
      obtain ⟨e, he⟩ := Option.isSome_iff_exists.1 (h 0 z rfl)
      obtain ⟨e', he'⟩ := Option.isSome_iff_exists.1 (h 1 zz rfl)
      rw [exs_two, he, he', node_both _ _ _ a]; rfl

/-- Four tests, one behind another. -/
theorem four (a b c d : Bool) : a = false ∨ (a = true ∧ b = false) ∨ (a = true ∧ b = true ∧ c = false) ∨ (a = true ∧ b = true ∧ c = true ∧ d = false) ∨ (a = true ∧ b = true ∧ c = true ∧ d = true) := by
  cases a <;> cases b <;> cases c <;> cases d <;> simp

def ESh (x : GX) : Prop := x.rng → ∀ (w : World) (v : EV), GV w 0 w.heap.size x v →
  Calls Tryz.prog 26 #[v.val] w fun e w' => e = .returned (.bool x.ex.isSome) ∧ Below w.heap.size w w'

set_option maxHeartbeats 6400000 in
set_option maxRecDepth 20000 in
theorem eshape_step (x : GX) (ih : ∀ (i : Nat) (z : GX), x.subs[i]? = some z → ESh z) : ESh x := by
  intro hr w v hg
  have HP := Lib.hid (fun (j : Nat) (z : GX) (h1 : x.subs[j]? = some z) (h2 : z.ex = none) => ex_part h1 h2)
  have HPS := Lib.hid (ex_parts hr)
  have HRS : Hid (∀ (j : Nat) (z : GX), x.subs[j]? = some z → z.rng) := fun j z hz => by
    obtain ⟨k, n, s, o, l, p⟩ := x
    rw [GX.rng] at hr
    exact rng_get hr.2.2.2 hz
  obtain ⟨a1, a2, a3, a4, a5, a6, a7, a8, a9⟩ := hg.out
  have hsz : v.name.size ≤ 140737488351232 := by
    obtain ⟨k, n, s, o, l, p⟩ := x
    rw [GX.rng] at hr
    have h1 : v.name.data.toList.length = v.name.size := rfl
    rw [a3] at h1
    have := hr.2.2.1
    show v.name.size ≤ _
    rw [← h1]
    exact this
  have HRNM := Lib.hid (fun W => rname_any v.name W hsz)
  have HLV := Lib.hid (fun W => elevel_any W x v a1 a4)
  have HLV5 : Hid (v.kind = 5 → lvl x = rowOf v.op) := fun h => by unfold lvl; rw [← a1, if_pos h, a4]
  obtain ⟨W0, hW0⟩ : ∃ W0, W0 = w.alloc (.cells #[.int .i64 v.kind, .int .i64 v.num, .string v.name, .int .i64 v.op, .slice v.A v.len v.cap, .int .i64 v.p] 26) := ⟨_, rfl⟩
  obtain ⟨g0, hg0⟩ : ∃ g0, g0 = w.heap.size := ⟨_, rfl⟩
  have HB0 : Hid (Below w.heap.size w W0) := by rw [hW0]; exact (Below.refl _ w).alloc (Nat.le_refl _) _
  have HX0 : Hid (XpB W0 g0 v) := by rw [hW0, hg0]; exact XpB.new w v
  have HL9 : Hid (v.len ≤ 9223372036854775807) := by
    unfold maxLen at a8
    exact Nat.le_trans a7 (by omega)
  rw [← a1, ← a2, ← a3, ← a4, ← a6] at HPS
  obtain ⟨l, hl⟩ : ∃ l, lvl x = l := ⟨_, rfl⟩
  rw [hl] at HLV HLV5
  obtain ⟨xs, hxs⟩ : ∃ xs, x.subs = xs := ⟨_, rfl⟩
  rw [hxs] at HP HPS HRS a6 a9 ih
  have HLX := Lib.hid a6
  have HRX := Lib.hid a9
  have HIH := Lib.hid ih
  obtain ⟨R, hR⟩ : ∃ R, x.ex.isSome = R := ⟨_, rfl⟩
  have HNR : Hid (∀ (j : Nat) (z : GX), xs[j]? = some z → z.ex = none → R = false) := fun j z h1 h2 => by rw [← hR, HP.out j z h1 h2]; rfl
  rw [hR] at HPS ⊢
  have hvv : v.val = .agg #[.int .i64 v.kind, .int .i64 v.num, .string v.name, .int .i64 v.op, .slice v.A v.len v.cap, .int .i64 v.p] := rfl
  rw [hvv] at HLV ⊢
  clear hl hxs hR a1 a2 a3 a4 a5 a6 a7 a8 a9 ih hr hg HP hsz hvv
  obtain ⟨k, num, S, op, A, len, cap, p⟩ := v
  simp only at HX0 hW0 HPS HLV HLV5 HRNM HL9 HLX HRX
  go_enter Tryz.func26, Tryz.ntmps26
  go_upto_region 1 with fail
  rw [← hW0, ← hg0]
  clear hW0 hg0
  go_wp2_with fail
  go_loopw [3] (fun iv wr => ∃ i : Nat, i ≤ len ∧ iv = .int .i64 (i : Int) ∧ Hid (∀ (j : Nat) (z : GX), j < i → xs[j]? = some z → z.ex.isSome = true) ∧ Hid (Below W0.heap.size W0 wr)) (fun iv _ => len - (intOf iv).toNat)
  case atStart => exact ⟨0, Nat.zero_le _, rfl, fun j z hj => absurd hj (Nat.not_lt_zero j), Below.refl _ _⟩
  case round =>
    obtain ⟨i, hi, rfl, HOK, HB⟩ := hrel
    have HXR := Lib.hid (HX0.out.below HB.out)
    have HBW := Lib.hid (HB0.out.trans (HB.out.mono HB0.out.size))
    have z4 := HXR.out.c4
    simp only at z4
    by_cases him : i < len
    · have HIM := Lib.hid him
      have him' : (i : Int) < len := by omega
      obtain ⟨z, hz⟩ : ∃ z, xs[i]? = some z := ⟨_, List.getElem?_eq_getElem (by rw [← HLX.out]; exact him)⟩
      obtain ⟨g, o, v', rfl, _, hg, hev, hgv⟩ := HRX.out.get i z hz
      rw [Nat.zero_add] at hev
      obtain ⟨x0, x1, x2, x3, x4, x5⟩ := hev.same (HBW.out.block g hg)
      have HC := Lib.hid (HIH.out i z hz (HRS.out i z hz) wr v' ((GV.below hgv HBW.out (Nat.le_refl _)).mono (Nat.le_refl _) HBW.out.size))
      have HZ := Lib.hid hz
      obtain ⟨c, hc⟩ : ∃ c, z.ex.isSome = c := ⟨_, rfl⟩
      rw [hc] at HC
      have HCC := Lib.hid hc
      obtain ⟨k2, num2, S2, op2, A2, len2, cap2, p2⟩ := v'
      simp only [EV.val] at HC
      simp only at x0 x1 x2 x3 x4 x5
      clear hev hgv hz hc hg
      go_wp2_with fail
      refine HC.out.mono ?_
      rintro e w2 ⟨rfl, hb⟩
      have HB2 := Lib.hid (HB.out.trans (hb.mono HB.out.size))
      clear hb HC x0 x1 x2 x3 x4 x5 z4
      cases c
      · obtain rfl : R = false := HNR.out i z HZ.out (Option.not_isSome_iff_eq_none.1 (by rw [HCC.out]; simp))
        go_wp2_with fail
        go_ret
        exact ⟨rfl, HB0.out.trans (HB2.out.mono HB0.out.size)⟩
      · have HOK2 : Hid (∀ (j : Nat) (z : GX), j < i + 1 → xs[j]? = some z → z.ex.isSome = true) := fun j z' hj hz' => by
          rcases Nat.lt_succ_iff_lt_or_eq.1 hj with h | rfl
          · exact HOK.out j z' h hz'
          · rw [HZ.out] at hz'
            injection hz' with hz'
            rw [← hz']
            exact HCC.out
        go_wp2_with fail
        go_roundw
        case rel => exact ⟨i + 1, by have := HIM.out; omega, by have h1 := HIM.out; have h2 := HL9.out; rw [Go.IntWalk.wrap64_in _ ⟨by omega, by omega⟩]; rfl, HOK2, HB2⟩
        case measure => have h1 := HIM.out; have h2 := HL9.out; rw [Go.IntWalk.wrap64_in _ ⟨by omega, by omega⟩]; simp [intOf]; omega
    · have him' : ¬ (i : Int) < len := by omega
      have HRR := Lib.hid (HPS.out (fun j z hz => HOK.out j z (by
        have h1 := (List.getElem?_eq_some_iff.1 hz).1
        have h2 := HLX.out
        omega) hz))
      have z2 := HXR.out.c2
      simp only at z2
      have HC := Lib.hid (HRNM.out wr)
      obtain ⟨nm, hnm⟩ : ∃ nm, isNm S.data.toList = nm := ⟨_, rfl⟩
      rw [hnm] at HC
      have HNM := Lib.hid hnm
      clear hnm HOK HPS HNR HIH HRX
      go_wp2_with fail
      refine HC.out.mono ?_
      rintro e w2 ⟨rfl, hb⟩
      have HB2 := Lib.hid (HB.out.trans (hb.mono HB.out.size))
      have HX2 := Lib.hid (HX0.out.below HB2.out)
      have HBZ := Lib.hid (HB0.out.trans (HB2.out.mono HB0.out.size))
      clear hb HC z2 z4 HXR HBW HB
      have z0 := HX2.out.c0
      have z1 := HX2.out.c1
      have z2 := HX2.out.c2
      have z3 := HX2.out.c3
      have z4 := HX2.out.c4
      have z5 := HX2.out.c5
      simp only at z0 z1 z2 z3 z4 z5
      obtain ⟨b1, hb1⟩ : ∃ b, (num == 0) = b := ⟨_, rfl⟩
      obtain ⟨b2, hb2⟩ : ∃ b, S.toList.isEmpty = b := ⟨_, rfl⟩
      obtain ⟨b3, hb3⟩ : ∃ b, (op == 0) = b := ⟨_, rfl⟩
      obtain ⟨b4, hb4⟩ : ∃ b, ((len : Int) == 0) = b := ⟨_, rfl⟩
      obtain ⟨b5, hb5⟩ : ∃ b, (op == 14) = b := ⟨_, rfl⟩
      obtain ⟨b6, hb6⟩ : ∃ b, (op == 15) = b := ⟨_, rfl⟩
      obtain ⟨b7, hb7⟩ : ∃ b, ((len : Int) == 1) = b := ⟨_, rfl⟩
      obtain ⟨b8, hb8⟩ : ∃ b, ((len : Int) == 2) = b := ⟨_, rfl⟩
      have e1 : decide (num = 0) = b1 := by rw [← hb1]; rfl
      have e2 : decide (S.data.toList = []) = b2 := by rw [← hb2, Lib.toList_data]; cases S.data.toList <;> rfl
      have e3 : decide (op = 0) = b3 := by rw [← hb3]; rfl
      have e4 : decide (len = 0) = b4 := by
        rw [← hb4, Bool.eq_iff_iff, decide_eq_true_eq, beq_iff_eq]; omega
      have e5 : decide (op = 14) = b5 := by rw [← hb5]; rfl
      have e6 : decide (op = 15) = b6 := by rw [← hb6]; rfl
      have e7 : decide (len = 1) = b7 := by
        rw [← hb7, Bool.eq_iff_iff, decide_eq_true_eq, beq_iff_eq]; omega
      have e8 : decide (len = 2) = b8 := by
        rw [← hb8, Bool.eq_iff_iff, decide_eq_true_eq, beq_iff_eq]; omega
      have HRR2 : Hid (R = if k = 1 then b3 && b4 && decide (0 ≤ num) && b2 else if k = 2 ∨ k = 3 then b3 && b4 && b1 && nm else if k = 4 then b1 && b2 && (b5 || b6) && b7 else if k = 5 then b1 && b2 && decide (rowOf op < 6) && b8 else false) := by
        show R = _
        rw [HRR.out, nodeOk, e1, e2, e3, e4, e5, e6, e7, e8, HNM.out]
      clear e1 e2 e3 e4 e5 e6 e7 e8 HRR
      by_cases k1 : k = 1
      · subst k1
        rcases four (decide (0 ≤ num)) b2 b3 b4 with q | ⟨q, rfl⟩ | ⟨q, rfl, rfl⟩ | ⟨q, rfl, rfl, rfl⟩ | ⟨q, rfl, rfl, rfl⟩
        · have hge : ¬ (0 : Int) ≤ num := of_decide_eq_false q
          have hge' : decide (num ≥ 0) = false := q
          obtain rfl : R = false := by rw [HRR2.out]; simp [q]
          clear HRR2 q
          go_wp2_with fail
          go_ret
          exact ⟨rfl, HBZ.out⟩
        · have hge : (0 : Int) ≤ num := of_decide_eq_true q
          obtain rfl : R = false := by rw [HRR2.out]; simp [q]
          clear HRR2 q
          go_wp2_with fail
          go_ret
          exact ⟨rfl, HBZ.out⟩
        · have hge : (0 : Int) ≤ num := of_decide_eq_true q
          obtain rfl : R = false := by rw [HRR2.out]; simp [q]
          clear HRR2 q
          go_wp2_with fail
          go_ret
          exact ⟨rfl, HBZ.out⟩
        · have hge : (0 : Int) ≤ num := of_decide_eq_true q
          obtain rfl : R = false := by rw [HRR2.out]; simp [q]
          clear HRR2 q
          go_wp2_with fail
          go_ret
          exact ⟨rfl, HBZ.out⟩
        · have hge : (0 : Int) ≤ num := of_decide_eq_true q
          obtain rfl : R = true := by rw [HRR2.out]; simp [q]
          clear HRR2 q
          go_wp2_with fail
          go_ret
          exact ⟨rfl, HBZ.out⟩
      by_cases k2 : k = 2
      · subst k2
        rcases four b1 nm b3 b4 with rfl | ⟨rfl, rfl⟩ | ⟨rfl, rfl, rfl⟩ | ⟨rfl, rfl, rfl, rfl⟩ | ⟨rfl, rfl, rfl, rfl⟩
        · obtain rfl : R = false := by rw [HRR2.out]; simp
          clear HRR2
          go_wp2_with fail
          go_ret
          exact ⟨rfl, HBZ.out⟩
        · obtain rfl : R = false := by rw [HRR2.out]; simp
          clear HRR2
          go_wp2_with fail
          go_ret
          exact ⟨rfl, HBZ.out⟩
        · obtain rfl : R = false := by rw [HRR2.out]; simp
          clear HRR2
          go_wp2_with fail
          go_ret
          exact ⟨rfl, HBZ.out⟩
        · obtain rfl : R = false := by rw [HRR2.out]; simp
          clear HRR2
          go_wp2_with fail
          go_ret
          exact ⟨rfl, HBZ.out⟩
        · obtain rfl : R = true := by rw [HRR2.out]; simp
          clear HRR2
          go_wp2_with fail
          go_ret
          exact ⟨rfl, HBZ.out⟩
      by_cases k3 : k = 3
      · subst k3
        rcases four b1 nm b3 b4 with rfl | ⟨rfl, rfl⟩ | ⟨rfl, rfl, rfl⟩ | ⟨rfl, rfl, rfl, rfl⟩ | ⟨rfl, rfl, rfl, rfl⟩
        · obtain rfl : R = false := by rw [HRR2.out]; simp
          clear HRR2
          go_wp2_with fail
          go_ret
          exact ⟨rfl, HBZ.out⟩
        · obtain rfl : R = false := by rw [HRR2.out]; simp
          clear HRR2
          go_wp2_with fail
          go_ret
          exact ⟨rfl, HBZ.out⟩
        · obtain rfl : R = false := by rw [HRR2.out]; simp
          clear HRR2
          go_wp2_with fail
          go_ret
          exact ⟨rfl, HBZ.out⟩
        · obtain rfl : R = false := by rw [HRR2.out]; simp
          clear HRR2
          go_wp2_with fail
          go_ret
          exact ⟨rfl, HBZ.out⟩
        · obtain rfl : R = true := by rw [HRR2.out]; simp
          clear HRR2
          go_wp2_with fail
          go_ret
          exact ⟨rfl, HBZ.out⟩
      by_cases k4 : k = 4
      · subst k4
        rcases four b1 b2 (b5 || b6) b7 with rfl | ⟨rfl, rfl⟩ | ⟨rfl, rfl, q⟩ | ⟨rfl, rfl, q, rfl⟩ | ⟨rfl, rfl, q, rfl⟩
        · skip
          obtain rfl : R = false := by rw [HRR2.out]; simp
          clear HRR2
          go_wp2_with fail
          go_ret
          exact ⟨rfl, HBZ.out⟩
        · skip
          obtain rfl : R = false := by rw [HRR2.out]; simp
          clear HRR2
          go_wp2_with fail
          go_ret
          exact ⟨rfl, HBZ.out⟩
        · skip
          obtain ⟨rfl, rfl⟩ : b5 = false ∧ b6 = false := by simpa using q
          obtain rfl : R = false := by rw [HRR2.out]; simp
          clear HRR2
          go_wp2_with fail
          go_ret
          exact ⟨rfl, HBZ.out⟩
        · cases b5
          · obtain rfl : b6 = true := by simpa using q
            obtain rfl : R = false := by rw [HRR2.out]; simp
            clear HRR2
            go_wp2_with fail
            go_ret
            exact ⟨rfl, HBZ.out⟩
          · obtain rfl : R = false := by rw [HRR2.out]; simp
            clear HRR2
            go_wp2_with fail
            go_ret
            exact ⟨rfl, HBZ.out⟩
        · cases b5
          · obtain rfl : b6 = true := by simpa using q
            obtain rfl : R = true := by rw [HRR2.out]; simp
            clear HRR2
            go_wp2_with fail
            go_ret
            exact ⟨rfl, HBZ.out⟩
          · obtain rfl : R = true := by rw [HRR2.out]; simp
            clear HRR2
            go_wp2_with fail
            go_ret
            exact ⟨rfl, HBZ.out⟩
      by_cases k5 : k = 5
      · subst k5
        have HL : Hid (l = rowOf op) := HLV5.out rfl
        rw [← HL.out] at HRR2
        clear HLV5
        have HC := Lib.hid (HLV.out w2)
        rcases four b1 b2 (decide (l < 6)) b8 with rfl | ⟨rfl, rfl⟩ | ⟨rfl, rfl, q⟩ | ⟨rfl, rfl, q, rfl⟩ | ⟨rfl, rfl, q, rfl⟩
        · obtain rfl : R = false := by rw [HRR2.out]; simp
          clear HRR2
          go_wp2_with fail
          go_ret
          exact ⟨rfl, HBZ.out⟩
        · obtain rfl : R = false := by rw [HRR2.out]; simp
          clear HRR2
          go_wp2_with fail
          go_ret
          exact ⟨rfl, HBZ.out⟩
        · have hro : ¬ (l : Int) < 6 := by have := of_decide_eq_false q; omega
          obtain rfl : R = false := by rw [HRR2.out]; simp [q]
          clear HRR2 q
          go_wp2_with fail
          refine HC.out.mono ?_
          rintro e w3 ⟨rfl, hb⟩
          have HBZ2 := Lib.hid (HBZ.out.trans (hb.mono HBZ.out.size))
          clear hb HC
          go_wp2_with fail
          go_ret
          exact ⟨rfl, HBZ2.out⟩
        · have hro : (l : Int) < 6 := by have := of_decide_eq_true q; omega
          obtain rfl : R = false := by rw [HRR2.out]; simp [q]
          clear HRR2 q
          go_wp2_with fail
          refine HC.out.mono ?_
          rintro e w3 ⟨rfl, hb⟩
          have HBZ2 := Lib.hid (HBZ.out.trans (hb.mono HBZ.out.size))
          clear hb HC
          go_wp2_with fail
          go_ret
          exact ⟨rfl, HBZ2.out⟩
        · have hro : (l : Int) < 6 := by have := of_decide_eq_true q; omega
          obtain rfl : R = true := by rw [HRR2.out]; simp [q]
          clear HRR2 q
          go_wp2_with fail
          refine HC.out.mono ?_
          rintro e w3 ⟨rfl, hb⟩
          have HBZ2 := Lib.hid (HBZ.out.trans (hb.mono HBZ.out.size))
          clear hb HC
          go_wp2_with fail
          go_ret
          exact ⟨rfl, HBZ2.out⟩
      have q1 : (k == 1) = false := beq_eq_false_iff_ne.2 k1
      have q2 : (k == 2) = false := beq_eq_false_iff_ne.2 k2
      have q3 : (k == 3) = false := beq_eq_false_iff_ne.2 k3
      have q4 : (k == 4) = false := beq_eq_false_iff_ne.2 k4
      have q5 : (k == 5) = false := beq_eq_false_iff_ne.2 k5
      obtain rfl : R = false := by rw [HRR2.out, if_neg k1, if_neg (by omega), if_neg k4, if_neg k5]
      clear k1 k2 k3 k4 k5 hb1 hb2 hb3 hb4 hb5 hb6 hb7 hb8
      go_wp2_with fail
      go_ret
      exact ⟨rfl, HBZ.out⟩

end Go.Proofs.YtlfmciocoijnbaaGreatDoor
