/-
  The names of an expression are collected.
-/
import Derived.Test.YthgodhojhajahaaGreatDoorVaM
namespace Go.Proofs.YthgodhojhajahaaGreatDoor
open Go.RowKit Go.Maps

/-- The block that holds the two sets. -/
def UsB (w : World) (g b1 b2 : Nat) : Prop := w.heap[g]? = some (.cells #[.map (some b1), .map (some b2)] 57 (0, 0))

theorem UsB.lt {w : World} {g b1 b2 : Nat} (h : UsB w g b1 b2) : g < w.heap.size := (Array.getElem?_eq_some_iff.1 h).1
theorem UsB.c0 {w : World} {g b1 b2 : Nat} (h : UsB w g b1 b2) : w.cell? ⟨g, 0, none⟩ = some (.map (some b1)) := cell_of_row w g 0 _ _ _ h
theorem UsB.c1 {w : World} {g b1 b2 : Nat} (h : UsB w g b1 b2) : w.cell? ⟨g, 1, none⟩ = some (.map (some b2)) := cell_of_row w g 1 _ _ _ h
theorem UsB.kp {w w' : World} {g b1 b2 : Nat} (h : UsB w g b1 b2) (hk : Kp b1 b2 w w') (h1 : g ≠ b1) (h2 : g ≠ b2) : UsB w' g b1 b2 := (hk.block h.lt h1 h2).trans h
theorem UsB.below {w w' : World} {g b1 b2 : Nat} (h : UsB w g b1 b2) (hb : Below w.heap.size w w') : UsB w' g b1 b2 := (hb.block g h.lt).trans h
theorem XpB.kp {w w' : World} {g b1 b2 : Nat} {v : EV} (h : XpB w g v) (hk : Kp b1 b2 w w') (h1 : g ≠ b1) (h2 : g ≠ b2) : XpB w' g v := (hk.block h.lt h1 h2).trans h

/-- Boxes for the two sets and a tree. -/
theorem use_boxes (w : World) (b1 b2 : Nat) (v : EV) : ∃ (W : World) (g1 g2 : Nat), W = (w.alloc (.cells #[.map (some b1), .map (some b2)] 57)).alloc (.cells #[.int .i64 v.kind, .int .i64 v.num, .string v.name, .int .i64 v.op, .slice v.A v.len v.cap, .int .i64 v.p] 24) ∧
    g1 = w.heap.size ∧ g2 = w.heap.size + 1 ∧ Hid (UsB W g1 b1 b2) ∧ Hid (XpB W g2 v) ∧ Hid (Below w.heap.size w W) := by
  have h1 : (w.alloc (.cells #[.map (some b1), .map (some b2)] 57)).heap.size = w.heap.size + 1 := by simp
  refine ⟨_, _, _, rfl, rfl, rfl, ?_, ?_, ((Below.refl _ w).alloc (Nat.le_refl _) _).alloc (by omega) _⟩
  · exact (Below.heap_alloc _ _ _ (by rw [h1]; omega)).trans (heap_alloc_new w _)
  · rw [← h1]
    exact XpB.new _ v

/-- What collecting does at a tree. -/
def ECo (x : GX) : Prop := x.rng → ∀ (w : World) (B b1 b2 : Nat) (acc1 acc2 : List (List UInt8)) (v : EV), GV w 0 B x v → B ≤ w.heap.size → B ≤ b1 → B ≤ b2 → b1 ≠ b2 → SetAt w b1 acc1 → SetAt w b2 acc2 → acc1.length + (colP 2 x).length < maxLen → acc2.length + (colP 3 x).length < maxLen →
  Calls Tryz.prog 23 #[.agg #[.map (some b1), .map (some b2)], v.val] w fun e w' => e = .returned (.tuple #[]) ∧ SetAt w' b1 (acc1 ++ colP 2 x) ∧ SetAt w' b2 (acc2 ++ colP 3 x) ∧ Kp b1 b2 w w'

/-- The own name of a node. -/
def ownP (kd : Int) (k : Int) (s : List UInt8) : List (List UInt8) := if k = kd then [s] else []

set_option maxHeartbeats 1600000 in
set_option maxRecDepth 20000 in
theorem collect_step (x : GX) (ih : ∀ (i : Nat) (z : GX), x.subs[i]? = some z → ECo z) : ECo x := by
  intro hrx w B b1 b2 acc1 acc2 v hx hB h1 h2 hne hM1 hM2 hn1 hn2
  obtain ⟨W0, g1, g2, hW0, hg1, hg2, HU, HX, HB0⟩ := use_boxes w b1 b2 v
  have hlen := hx.leneq
  have hcap := hx.lecap
  have hcm : v.cap ≤ maxLen := hx.out.2.2.2.2.2.2.2.1
  have hrow := hx.out.2.2.2.2.2.2.2.2
  have hrs : GX.rngs x.subs := by
    obtain ⟨k, n, s, o, l, p⟩ := x
    rw [GX.rng] at hrx
    exact hrx.2.2.2
  have hk : v.kind = x.kind ∧ v.name.data.toList = x.name := by
    obtain ⟨a1, a2, a3, _⟩ := hx.out
    exact ⟨a1, a3⟩
  have hs : v.name.size ≤ maxLen := by
    rw [← barr_len, hk.2]
    obtain ⟨k, n, s, o, l, p⟩ := x
    rw [GX.rng] at hrx
    have := hrx.2.2.1
    show s.length ≤ maxLen
    unfold maxLen
    omega
  have hc2 : colP 2 x = ownP 2 v.kind v.name.data.toList ++ colsP 2 x.subs := by
    obtain ⟨k, n, s, o, l, p⟩ := x
    rw [colP_mk, hk.1, hk.2]; rfl
  have hc3 : colP 3 x = ownP 3 v.kind v.name.data.toList ++ colsP 3 x.subs := by
    obtain ⟨k, n, s, o, l, p⟩ := x
    rw [colP_mk, hk.1, hk.2]; rfl
  rw [hc2] at hn1 ⊢
  rw [hc3] at hn2 ⊢
  obtain ⟨sb, hsb⟩ : ∃ sb, x.subs = sb := ⟨_, rfl⟩
  rw [hsb] at hlen hrow hrs ih hn1 hn2 ⊢
  have HIH := Lib.hid (fun (i : Nat) (z : GX) (h : sb[i]? = some z) => ih i z h (rng_get hrs h))
  have HROW := Lib.hid hrow
  have HLN := Lib.hid hlen
  have hlt1 := hM1.lt
  have hlt2 := hM2.lt
  have hgb1 : g1 ≠ b1 := by omega
  have hgb2 : g1 ≠ b2 := by omega
  have hgb3 : g2 ≠ b1 := by omega
  have hgb4 : g2 ≠ b2 := by omega
  have HG := Lib.hid (And.intro hgb1 (And.intro hgb2 (And.intro hgb3 hgb4)))
  have HP := Lib.hid (And.intro hB (And.intro h1 (And.intro h2 hne)))
  have HA1 := Lib.hid (hM1.below HB0.out)
  have HA2 := Lib.hid (hM2.below HB0.out)
  have HN1 := Lib.hid hn1
  have HN2 := Lib.hid hn2
  have HS := Lib.hid hs
  have HCM : Hid (v.len ≤ 9223372036854775807) := by unfold maxLen at hcm; exact Nat.le_trans hcap (by omega)
  have HADD1 := Lib.hid (fun (h : acc1.length < maxLen) => add_any W0 b1 acc1 v.name HA1.out h hs)
  have HADD2 := Lib.hid (fun (h : acc2.length < maxLen) => add_any W0 b2 acc2 v.name HA2.out h hs)
  clear hrx hx hM1 hM2 hlen hrow hrs hk hs hc2 hc3 hsb ih hlt1 hlt2 hgb1 hgb2 hgb3 hgb4 hB h1 h2 hne hn1 hn2 hcap hcm
  obtain ⟨k, num, S, op, A, len, cap, p⟩ := v
  simp only [EV.val] at hW0 HADD1 HADD2 HROW HLN HN1 HN2 HCM HS ⊢
  have z0 := HX.out.c0
  have z2 := HX.out.c2
  have y0 := HU.out.c0
  have y1 := HU.out.c1
  simp only at z0 z2
  go_enter Tryz.func23, Tryz.ntmps23
  go_upto_region 1 with fail
  rw [← hW0, ← hg2, ← hg1]
  clear hW0 hg1 hg2
  obtain ⟨d2, hd2⟩ : ∃ d, (k == 2) = d := ⟨_, rfl⟩
  go_upto_block 0 with fail
  go_cut [8] from 9 to 21 (fun s8 wr => Hid (SetAt wr b1 (acc1 ++ ownP 2 k S.data.toList) ∧ SetAt wr b2 (acc2 ++ ownP 3 k S.data.toList) ∧ Kp b1 b2 W0 wr))
  case first =>
    cases d2
    · have hk2 : ownP 2 k S.data.toList = [] := if_neg (by simpa using hd2)
      obtain ⟨d3, hd3⟩ : ∃ d, (k == 3) = d := ⟨_, rfl⟩
      cases d3
      · have hk3 : ownP 3 k S.data.toList = [] := if_neg (by simpa using hd3)
        go_wp2_with fail
        go_meet
        rw [hk2, hk3, List.append_nil, List.append_nil]
        exact ⟨HA1.out, HA2.out, Kp.refl _ _ _⟩
      · have hk3 : ownP 3 k S.data.toList = [S.data.toList] := if_pos (by simpa using hd3)
        have HH := Lib.hid (And.intro hk2 hk3)
        have HC := Lib.hid (HADD2.out (by have := HN2.out; rw [hk3] at this; simp only [List.length_append, List.length_singleton] at this; omega))
        clear hk2 hk3
        go_wp2_with fail
        refine HC.out.mono ?_
        rintro e w' ⟨rfl, q1, q2⟩
        have hres : Hid (SetAt w' b1 (acc1 ++ ownP 2 k S.data.toList) ∧ SetAt w' b2 (acc2 ++ ownP 3 k S.data.toList) ∧ Kp b1 b2 W0 w') := by
          rw [HH.out.1, HH.out.2, List.append_nil]
          exact ⟨HA1.out.kept q2 (fun e => by injection e with e; exact HP.out.2.2.2 e), q1, Kp.of_grown q2 (.inr rfl)⟩
        clear q1 q2
        go_wp2_with fail
        go_meet
        exact hres
    · have hk2' : k = 2 := by simpa using hd2
      have hk2 : ownP 2 k S.data.toList = [S.data.toList] := if_pos hk2'
      have hk3 : ownP 3 k S.data.toList = [] := if_neg (by omega)
      have HH := Lib.hid (And.intro hk2 hk3)
      have HC := Lib.hid (HADD1.out (by have := HN1.out; rw [hk2] at this; simp only [List.length_append, List.length_singleton] at this; omega))
      clear hk2 hk3 hk2'
      go_wp2_with fail
      refine HC.out.mono ?_
      rintro e w' ⟨rfl, q1, q2⟩
      have hres : Hid (SetAt w' b1 (acc1 ++ ownP 2 k S.data.toList) ∧ SetAt w' b2 (acc2 ++ ownP 3 k S.data.toList) ∧ Kp b1 b2 W0 w') := by
        rw [HH.out.1, HH.out.2, List.append_nil]
        exact ⟨q1, HA2.out.kept q2 (fun e => by injection e with e; exact HP.out.2.2.2 e.symm), Kp.of_grown q2 (.inl rfl)⟩
      clear q1 q2
      go_wp2_with fail
      go_meet
      exact hres
  case rest =>
  have HQ := Lib.hid hcut
  clear hcut z0 z2 y0 y1 hd2 HADD1 HADD2 HA1 HA2 HS
  have hu := HU.out.kp HQ.out.out.2.2 HG.out.1 HG.out.2.1
  have hx4 := HX.out.kp HQ.out.out.2.2 HG.out.2.2.1 HG.out.2.2.2
  have z4 := hx4.c4
  simp only at z4
  clear hu hx4
  go_wp2_with fail
  go_loopw [25] (fun iv wr => ∃ (i : Nat) (A1 A3 : List (List UInt8)), i ≤ len ∧ iv = .int .i64 (i : Int) ∧ Hid (SetAt wr b1 A1 ∧ SetAt wr b2 A3 ∧ Kp b1 b2 W0 wr) ∧ Hid (A1 ++ colsP 2 (sb.drop i) = acc1 ++ (ownP 2 k S.data.toList ++ colsP 2 sb) ∧ A3 ++ colsP 3 (sb.drop i) = acc2 ++ (ownP 3 k S.data.toList ++ colsP 3 sb))) (fun iv _ => len - (intOf iv).toNat)
  case atStart => exact ⟨0, _, _, Nat.zero_le _, rfl, HQ.out, by rw [List.drop_zero]; exact ⟨by rw [List.append_assoc], by rw [List.append_assoc]⟩⟩
  case round =>
    obtain ⟨i, A1, A3, hi, rfl, HM, HT⟩ := hrel
    by_cases him : i < len
    · have HIM := Lib.hid him
      have him' : (i : Int) < len := by omega
      obtain ⟨z, hz⟩ : ∃ z, sb[i]? = some z := ⟨_, List.getElem?_eq_getElem (by rw [← HLN.out]; exact him)⟩
      obtain ⟨go, o, v', rfl, _, hgo, hev, hgv⟩ := HROW.out.get i z hz
      rw [Nat.zero_add] at hev
      have hbw : Below B w wr := (HB0.out.mono HP.out.1).trans (HM.out.2.2.toBelow (Nat.le_trans HP.out.1 HB0.out.size) HP.out.2.1 HP.out.2.2.1)
      obtain ⟨x0, x1, x2, x3, x4, x5⟩ := hev.same (hbw.block go hgo)
      obtain ⟨W5, g5, hW5, hg5, HX5, HB5⟩ : ∃ (W : World) (g : Nat), W = wr.alloc (.cells #[.int .i64 v'.kind, .int .i64 v'.num, .string v'.name, .int .i64 v'.op, .slice v'.A v'.len v'.cap, .int .i64 v'.p] 24) ∧ g = wr.heap.size ∧ Hid (XpB W g v') ∧ Hid (Below wr.heap.size wr W) :=
        ⟨_, _, rfl, rfl, XpB.new wr v', (Below.refl _ wr).alloc (Nat.le_refl _) _⟩
      have hBr : B ≤ wr.heap.size := by have := HP.out.1; have := HB0.out.size; have := HM.out.2.2.size; omega
      have hT := HT.out
      rw [drop_at hz, colsP_cons, colsP_cons] at hT
      have hl1 := congrArg List.length hT.1
      have hl2 := congrArg List.length hT.2
      simp only [List.length_append] at hl1 hl2
      have hN1 := HN1.out
      have hN2 := HN2.out
      simp only [List.length_append] at hN1 hN2
      have HC := Lib.hid (HIH.out i z hz W5 B b1 b2 A1 A3 v' (hgv.same (fun g _ hg => (HB5.out.block g (by omega)).trans (hbw.block g hg))) (Nat.le_trans hBr HB5.out.size) HP.out.2.1 HP.out.2.2.1 HP.out.2.2.2 (HM.out.1.below HB5.out) (HM.out.2.1.below HB5.out) (by omega) (by omega))
      have HT2 : Hid ((A1 ++ colP 2 z) ++ colsP 2 (sb.drop (i + 1)) = acc1 ++ (ownP 2 k S.data.toList ++ colsP 2 sb) ∧ (A3 ++ colP 3 z) ++ colsP 3 (sb.drop (i + 1)) = acc2 ++ (ownP 3 k S.data.toList ++ colsP 3 sb)) := ⟨by rw [List.append_assoc]; exact hT.1, by rw [List.append_assoc]; exact hT.2⟩
      have hus := (HU.out.kp HM.out.2.2 HG.out.1 HG.out.2.1).below HB5.out
      have HK5 : Hid (Kp b1 b2 W0 W5) := HM.out.2.2.trans (Kp.of_below HB5.out)
      clear hz hev hgv hgo hbw hT hl1 hl2 hN1 hN2 hBr HT HM
      obtain ⟨k2, num2, S2, op2, A2, len2, cap2, p2⟩ := v'
      simp only [EV.val] at HC hW5
      simp only at x0 x1 x2 x3 x4 x5
      go_upto_region 9 with fail
      rw [← hW5, ← hg5]
      clear hW5 hg5 x0 x1 x2 x3 x4 x5
      have y0 := hus.c0
      have y1 := hus.c1
      have z0 := HX5.out.c0
      have z1 := HX5.out.c1
      have z2 := HX5.out.c2
      have z3 := HX5.out.c3
      have z4 := HX5.out.c4
      have z5 := HX5.out.c5
      simp only at z0 z1 z2 z3 z4 z5
      clear hus
      go_wp2_with fail
      refine HC.out.mono ?_
      rintro e w6 ⟨rfl, q1, q2, q3⟩
      have HM6 : Hid (SetAt w6 b1 (A1 ++ colP 2 z) ∧ SetAt w6 b2 (A3 ++ colP 3 z) ∧ Kp b1 b2 W0 w6) := ⟨q1, q2, HK5.out.trans q3⟩
      clear q1 q2 q3 y0 y1 z0 z1 z2 z3 z4 z5
      go_wp2_with fail
      exact ⟨⟨i + 1, _, _, by have := HIM.out; omega, by have h1 := HIM.out; have h2 := HCM.out; rw [Go.IntWalk.wrap64_in _ ⟨by omega, by omega⟩]; rfl, HM6, HT2⟩, by have h1 := HIM.out; have h2 := HCM.out; rw [Go.IntWalk.wrap64_in _ ⟨by omega, by omega⟩]; simp [intOf]; omega⟩
    · have him' : ¬ (i : Int) < len := by omega
      have hT := HT.out
      rw [drop_none (by rw [← HLN.out]; omega), colsP_nil, colsP_nil, List.append_nil, List.append_nil] at hT
      have HR : Hid (SetAt wr b1 (acc1 ++ (ownP 2 k S.data.toList ++ colsP 2 sb)) ∧ SetAt wr b2 (acc2 ++ (ownP 3 k S.data.toList ++ colsP 3 sb)) ∧ Kp b1 b2 W0 wr) := by
        rw [← hT.1, ← hT.2]
        exact HM.out
      clear hT
      go_wp2_with fail
      go_end0
      exact ⟨rfl, HR.out.1, HR.out.2.1, (Kp.of_below HB0.out).trans HR.out.2.2⟩

theorem collect_all : ∀ (m : Nat) (x : GX), SizeOf.sizeOf x ≤ m → ECo x
  | 0, x, hm => by
    obtain ⟨k, n, s, o, l, p⟩ := x
    simp only [GX.mk.sizeOf_spec] at hm
    omega
  | m + 1, x, hm => collect_step x (fun i z hz => collect_all m z (by have := sub_lt hz; omega))

theorem collect_any (x : GX) : ECo x := collect_all _ x (Nat.le_refl _)

end Go.Proofs.YthgodhojhajahaaGreatDoor
