/-
  The document's Same: whether two trees are the same.
-/
import Derived.Test.YtcddbfdbhjkjgaaGreatDoorEwS
import Derived.Test.YtcddbfdbhjkjgaaGreatDoorXF
import Derived.Deep.QuietTactic
import Derived.BigQuiet
import Derived.StillTailTactics
namespace Go.Proofs.YtcddbfdbhjkjgaaGreatDoor
open Go.RowKit

def ES (x : GX) : Prop := ∀ (y : GX) (pl : Bool) (w : World) (v u : EV), GV w 0 w.heap.size x v → GV w 0 w.heap.size y u →
  Calls Tryz.prog 77 #[v.val, u.val, .bool pl] w fun e w' => e = .returned (.bool (sm pl x y)) ∧ Below w.heap.size w w'

/-- Two boxes for two parameters. -/
theorem boxes_new (w : World) (v u : EV) : ∃ (W : World) (g1 g2 : Nat), W = (w.alloc (.cells #[.int .i64 v.kind, .int .i64 v.num, .string v.name, .int .i64 v.op, .slice v.A v.len v.cap, .int .i64 v.p] 54)).alloc (.cells #[.int .i64 u.kind, .int .i64 u.num, .string u.name, .int .i64 u.op, .slice u.A u.len u.cap, .int .i64 u.p] 54) ∧
    g1 = w.heap.size ∧ g2 = w.heap.size + 1 ∧ Hid (XpB W g1 v) ∧ Hid (XpB W g2 u) ∧ Hid (Below w.heap.size w W) := by
  have e : (w.alloc (.cells #[.int .i64 v.kind, .int .i64 v.num, .string v.name, .int .i64 v.op, .slice v.A v.len v.cap, .int .i64 v.p] 54)).heap.size = w.heap.size + 1 := by simp
  refine ⟨_, _, _, rfl, rfl, rfl, (XpB.new w v).alloc _, ?_, ((Below.refl _ w).alloc (Nat.le_refl _) _).alloc (by omega) _⟩
  rw [← e]
  exact XpB.new _ u

theorem drop_cons2 {α : Type} {l : List α} {i : Nat} {x : α} (h : l[i]? = some x) : l.drop i = x :: l.drop (i + 1) := by
  obtain ⟨hl, he⟩ := List.getElem?_eq_some_iff.1 h
  rw [List.drop_eq_getElem_cons hl, he]

set_option maxHeartbeats 1600000 in
set_option maxRecDepth 20000 in
theorem es_step (x : GX) (ih : ∀ (i : Nat) (z : GX), x.subs[i]? = some z → ES z) : ES x := by
  intro y pl w v u hx hy
  obtain ⟨W0, g1, g2, hW0, hg1, hg2, HX, HY, HB⟩ := boxes_new w v u
  have HR := sm_eq pl x y
  obtain ⟨a1, a2, a3, a4, a5, a6, _, _, a9⟩ := hx.out
  obtain ⟨b1, b2, b3, b4, b5, b6, _, _, b9⟩ := hy.out
  rw [← a1, ← a2, ← a3, ← a4, ← a5, ← a6, ← b1, ← b2, ← b3, ← b4, ← b5, ← b6] at HR
  have HLX := Lib.hid a6
  have HL9 : Hid (v.len ≤ 9223372036854775807) := by
    have h1 := hx.out.2.2.2.2.2.2.1
    have h2 := hx.out.2.2.2.2.2.2.2.1
    unfold maxLen at h2
    exact Nat.le_trans h1 (by omega)
  have HLY := Lib.hid b6
  obtain ⟨xs, hxs⟩ : ∃ xs, x.subs = xs := ⟨_, rfl⟩
  obtain ⟨ys, hys⟩ : ∃ ys, y.subs = ys := ⟨_, rfl⟩
  rw [hxs] at HR HLX a9 ih
  rw [hys] at HR HLY b9
  obtain ⟨R, hR⟩ : ∃ R, sm pl x y = R := ⟨_, rfl⟩
  rw [hR] at HR ⊢
  replace HR := Lib.hid HR
  have HIH := Lib.hid ih
  have HRX := Lib.hid a9
  have HRY := Lib.hid b9
  have hg10 : w.heap.size ≤ g1 := by omega
  have hg20 : w.heap.size ≤ g2 := by omega
  obtain ⟨k, num, S, op, A, len, cap, p⟩ := v
  obtain ⟨k', num', S', op', A', len', cap', p'⟩ := u
  simp only [EV.val]
  simp only at hW0 HR HLX HLY HRX HRY HL9
  have c := head_cases pl k k' num num' op op' p p' S.data.toList S'.data.toList len len'
  rw [← Lib.toList_data, ← Lib.toList_data] at c HR
  have z0 := HX.out.c0
  have z1 := HX.out.c1
  have z2 := HX.out.c2
  have z3 := HX.out.c3
  have z4 := HX.out.c4
  have z5 := HX.out.c5
  have y0 := HY.out.c0
  have y1 := HY.out.c1
  have y2 := HY.out.c2
  have y3 := HY.out.c3
  have y4 := HY.out.c4
  have y5 := HY.out.c5
  simp only at z0 z1 z2 z3 z4 z5 y0 y1 y2 y3 y4 y5
  clear hx hy hxs hys hR ih a1 a2 a3 a4 a5 a6 a9 b1 b2 b3 b4 b5 b6 b9
  go_enter Tryz.func77, Tryz.ntmps77
  go_upto_region 1 with fail
  rw [← hW0, ← hg2, ← hg1]
  clear hW0 hg1 hg2
  rcases c with c1 | ⟨c1, c2⟩ | ⟨c1, c2, c3⟩ | ⟨c1, c2, c3, c4⟩ | ⟨c1, c2, c3, c4, rfl, c5⟩ | ⟨c1, c2, c3, c4, c5, c6⟩ | ⟨c1, c2, c3, c4, c5, c6⟩
  · have q1 : (k != k') = true := by simp [bne, c1]
    obtain rfl : R = false := by rw [HR.out, c1]; simp
    go_wp2_with fail
    go_ret
    exact ⟨rfl, HB.out⟩
  · have q1 : (k != k') = false := by simp [bne, c1]
    have q2 : (num != num') = true := by simp [bne, c2]
    obtain rfl : R = false := by rw [HR.out, c1, c2]; simp
    go_wp2_with fail
    go_ret
    exact ⟨rfl, HB.out⟩
  · have q1 : (k != k') = false := by simp [bne, c1]
    have q2 : (num != num') = false := by simp [bne, c2]
    obtain rfl : R = false := by rw [HR.out, c1, c2, c3]; simp
    go_wp2_with fail
    go_ret
    exact ⟨rfl, HB.out⟩
  · have q1 : (k != k') = false := by simp [bne, c1]
    have q2 : (num != num') = false := by simp [bne, c2]
    have q4 : (op != op') = true := by simp [bne, c4]
    obtain rfl : R = false := by rw [HR.out, c1, c2, c3, c4]; simp
    go_wp2_with fail
    go_ret
    exact ⟨rfl, HB.out⟩
  · have q1 : (k != k') = false := by simp [bne, c1]
    have q2 : (num != num') = false := by simp [bne, c2]
    have q4 : (op != op') = false := by simp [bne, c4]
    have q5 : (p != p') = true := by simp [bne, c5]
    obtain rfl : R = false := by rw [HR.out, c1, c2, c3, c4, c5]; simp
    go_wp2_with fail
    go_ret
    exact ⟨rfl, HB.out⟩
  · have q1 : (k != k') = false := by simp [bne, c1]
    have q2 : (num != num') = false := by simp [bne, c2]
    have q4 : (op != op') = false := by simp [bne, c4]
    have q6 : ((len : Int) != len') = true := by simp only [bne, c6]; rfl
    obtain rfl : R = false := by
      have : len ≠ len' := fun h => by rw [h] at c6; simp at c6
      rw [HR.out, decide_eq_false this]; simp
    rcases c5 with rfl | ⟨rfl, c5⟩
    · go_wp2_with fail
      go_ret
      exact ⟨rfl, HB.out⟩
    · have q5 : (p != p') = false := by simp [bne, c5]
      go_wp2_with fail
      go_ret
      exact ⟨rfl, HB.out⟩
  · have q1 : (k != k') = false := by simp [bne, c1]
    have q2 : (num != num') = false := by simp [bne, c2]
    have q4 : (op != op') = false := by simp [bne, c4]
    have hlen : len = len' := by have := eq_of_beq c6; omega
    subst hlen
    have q6 : ((len : Int) != len) = false := by simp [bne]
    have HRR : Hid (sms pl xs ys = R) := by
      show _ = _
      rw [HR.out, c1, c2, c3, c4, decide_eq_true rfl]
      rcases c5 with rfl | ⟨rfl, c5⟩
      · simp
      · rw [c5]; simp
    have q5 : pl = true → (p != p') = false := fun h => by
      rcases c5 with rfl | ⟨rfl, c5⟩
      · cases h
      · simp [bne, c5]
    have HQ := Lib.hid q5
    clear c5 c6 q5 HR
    go_cut [53] from 9 to 52 (fun s53 wr => s53 = .bool false ∧ W0 = wr)
    case first =>
      cases pl
      · go_wp2_with fail
        go_meet
        exact ⟨rfl, rfl⟩
      · have q5 := HQ.out rfl
        go_wp2_with fail
        go_meet
        exact ⟨rfl, rfl⟩
    case rest =>
    obtain ⟨rfl, rfl⟩ := hcut
    clear z0 z1 z2 z3 z4 z5 y0 y1 y2 y3 y4 y5 q1 q2 q4 q6 c1 c2 c3 c4
    go_wp2_with fail
    go_loopw [7] (fun iv wr => ∃ i : Nat, i ≤ len ∧ iv = .int .i64 (i : Int) ∧ Hid (sms pl (xs.drop i) (ys.drop i) = R) ∧ Hid (Below w.heap.size w wr) ∧ Hid (XpB wr g1 ⟨k, num, S, op, A, len, cap, p⟩) ∧ Hid (XpB wr g2 ⟨k', num', S', op', A', len, cap', p'⟩)) (fun iv _ => len - (intOf iv).toNat)
    case atStart => exact ⟨0, Nat.zero_le _, rfl, HRR, HB, HX, HY⟩
    case round =>
      obtain ⟨i, hi, rfl, HS, HBW, HXW, HYW⟩ := hrel
      have z4 := HXW.out.c4
      have y4 := HYW.out.c4
      simp only at z4 y4
      by_cases him : i < len
      · have HIM := Lib.hid him
        have him' : (i : Int) < len := by omega
        obtain ⟨x', hx'⟩ : ∃ x', xs[i]? = some x' := ⟨_, List.getElem?_eq_getElem (by rw [← HLX.out]; exact him)⟩
        obtain ⟨y', hy'⟩ : ∃ y', ys[i]? = some y' := ⟨_, List.getElem?_eq_getElem (by rw [← HLY.out]; exact him)⟩
        obtain ⟨g, o, v', rfl, _, hg, hev, hgv⟩ := HRX.out.get i x' hx'
        obtain ⟨g', o', u', rfl, _, hg', hev', hgv'⟩ := HRY.out.get i y' hy'
        rw [Nat.zero_add] at hev hev'
        obtain ⟨x0, x1, x2, x3, x4, x5⟩ := hev.same (HBW.out.block g hg)
        obtain ⟨w0, w1, w2, w3, w4, w5⟩ := hev'.same (HBW.out.block g' hg')
        have HC := Lib.hid (fun (W : World) (hb : Below w.heap.size w W) => HIH.out i x' hx' y' pl W v' u' ((GV.below hgv hb (Nat.le_refl _)).mono (Nat.le_refl _) hb.size) ((GV.below hgv' hb (Nat.le_refl _)).mono (Nat.le_refl _) hb.size))
        have HSS : Hid ((sm pl x' y' && sms pl (xs.drop (i + 1)) (ys.drop (i + 1))) = R) := by
          have := HS.out
          rw [drop_cons2 hx', drop_cons2 hy', sms_cons] at this
          exact this
        obtain ⟨c, hc⟩ : ∃ c, sm pl x' y' = c := ⟨_, rfl⟩
        rw [hc] at HSS HC
        obtain ⟨k2, num2, S2, op2, A2, len2, cap2, p2⟩ := v'
        obtain ⟨k3, num3, S3, op3, A3, len3, cap3, p3⟩ := u'
        simp only [EV.val] at HC
        simp only at x0 x1 x2 x3 x4 x5 w0 w1 w2 w3 w4 w5
        clear hev hev' hgv hgv' hx' hy' hc hg hg' HS
        go_wp2_with fail
        go_still_tail 11, (by kernel_rfl)
        change wpList _ _ _ _ _ (World.drew wr)
        obtain ⟨W1, hW1⟩ : ∃ W1, W1 = wr.drew := ⟨_, rfl⟩
        have HB1 : Hid (Below w.heap.size w W1) := by rw [hW1]; exact HBW.out.trans (Below.refl _ wr).drew
        have HX1 : Hid (XpB W1 g1 ⟨k, num, S, op, some ⟨g, o, none⟩, len, cap, p⟩) := by rw [hW1]; exact HXW.out
        have HY1 : Hid (XpB W1 g2 ⟨k', num', S', op', some ⟨g', o', none⟩, len, cap', p'⟩) := by rw [hW1]; exact HYW.out
        have HCC := Lib.hid (HC.out W1 HB1.out)
        rw [← hW1]
        clear hW1 HC HXW HYW HBW z4 y4 x0 x1 x2 x3 x4 x5 w0 w1 w2 w3 w4 w5
        go_wp2_with fail
        refine HCC.out.mono ?_
        rintro e w2 ⟨rfl, hb⟩
        have HB2 := Lib.hid (HB1.out.trans (hb.mono HB1.out.size))
        have HX2 := Lib.hid (HX1.out.below hb)
        have HY2 := Lib.hid (HY1.out.below hb)
        clear hb HCC HB1 HX1 HY1
        cases c
        · obtain rfl : R = false := by rw [← HSS.out]; rfl
          go_wp2_with fail
          go_ret
          exact ⟨rfl, HB2.out⟩
        · have HS2 : Hid (sms pl (xs.drop (i + 1)) (ys.drop (i + 1)) = R) := by
            have := HSS.out
            rw [Bool.true_and] at this
            exact this
          go_wp2_with fail
          go_roundw
          case rel => exact ⟨i + 1, by have := HIM.out; omega, by have h1 := HIM.out; have h2 := HL9.out; rw [Go.IntWalk.wrap64_in _ ⟨by omega, by omega⟩]; rfl, HS2, HB2, HX2, HY2⟩
          case measure => have h1 := HIM.out; have h2 := HL9.out; rw [Go.IntWalk.wrap64_in _ ⟨by omega, by omega⟩]; simp [intOf]; omega
      · have him' : ¬ (i : Int) < len := by omega
        obtain rfl : R = true := by
          rw [← HS.out, List.drop_eq_nil_of_le (by rw [← HLX.out]; omega), sms_nil]
        go_wp2_with fail
        go_ret
        exact ⟨rfl, HBW.out⟩

theorem es_all : ∀ (m : Nat) (x : GX), SizeOf.sizeOf x ≤ m → ES x
  | 0, x, hm => by
    obtain ⟨k, n, s, o, l, p⟩ := x
    simp only [GX.mk.sizeOf_spec] at hm
    omega
  | m + 1, x, hm => es_step x (fun i z hz => es_all m z (by have := sub_size hz; omega))

theorem esame_any (w : World) (x y : GX) (v u : EV) (pl : Bool) (hx : GV w 0 w.heap.size x v) (hy : GV w 0 w.heap.size y u) :
    Calls Tryz.prog 77 #[v.val, u.val, .bool pl] w fun e w' => e = .returned (.bool (sm pl x y)) ∧ Below w.heap.size w w' :=
  es_all _ x (Nat.le_refl _) y pl w v u hx hy

end Go.Proofs.YtcddbfdbhjkjgaaGreatDoor
