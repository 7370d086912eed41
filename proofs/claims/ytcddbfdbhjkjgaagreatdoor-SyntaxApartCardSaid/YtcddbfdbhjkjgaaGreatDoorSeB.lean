/-
  Charts in memory, as the document's Same reads them: moves.
-/
import Derived.Test.YtcddbfdbhjkjgaaGreatDoorSeA
namespace Go.Proofs.YtcddbfdbhjkjgaaGreatDoor
open Go.RowKit

theorem DvsAt.uncons {w : World} {d : DV} {ds : List DV} {xs : List Value} {F : List Nat} (h : DvsAt w (d :: ds) xs F) : ∃ x ys F1 F2, xs = x :: ys ∧ DvAt w d x F1 ∧ DvsAt w ds ys F2 := by
  unfold DvsAt at h
  obtain ⟨x, ys, F1, F2, h1, _, h2, h3⟩ := h
  exact ⟨x, ys, F1, F2, h1, h2, h3⟩
theorem strs_at {w : World} {l : List (List UInt8)} {v : Value} {F : List Nat} (h : DvAt w (dvStrs l) v F) : ∃ A c, v = .slice A l.length c ∧ l.length ≤ c ∧ c ≤ maxLen ∧ StrAt w A (l.map fun s => (⟨s.toArray⟩ : ByteArray)) := by
  unfold dvStrs at h
  obtain ⟨A, c, hv, h1, h2⟩ := h.slice
  refine ⟨A, c, hv, h1, h2, fun i s hi => ?_⟩
  rw [List.getElem?_map] at hi
  obtain ⟨t, ht, rfl⟩ := Option.map_eq_some_iff.1 hi
  have hn : 0 < l.length := by have := (List.getElem?_eq_some_iff.1 ht).1; omega
  obtain ⟨g, c', hv', _, _, h3, h4⟩ := h.opened hn
  rw [hv] at hv'
  obtain rfl : A = some ⟨g, 0, none⟩ := by injection hv'
  obtain ⟨u, F', h5, h6⟩ := h4 i (.v (txV t)) (by rw [List.getElem?_map, ht]; rfl)
  exact ⟨g, 0, rfl, h3, by rw [Nat.zero_add, h5, h6.v]; rfl⟩
/-- A move's cells. -/
theorem move_vals {w : World} {o : Bool} {m : SyMove} {xs : List Value} {F : List Nat} (h : DvsAt w (dvMove o m) xs F) : ∃ (ev : EV) (va vt : Value) (Fa Ft : List Nat), xs = [.int .i64 m.kind, txV m.event, .int .i64 m.wait, .bool m.guarded, .int .i64 ev.kind, .int .i64 ev.num, .string ev.name, .int .i64 ev.op, .slice ev.A ev.len ev.cap, .int .i64 ev.p, va, vt, .int .i64 m.at_] ∧
    GV w 0 w.heap.size (gxO m.guard) ev ∧ DvAt w (dvActs o m.acts) va Fa ∧ DvAt w (dvStrs m.targets) vt Ft := by
  unfold dvMove dvEx at h
  simp only [List.cons_append, List.nil_append] at h
  obtain ⟨x0, ys, _, _, rfl, d0, h⟩ := h.uncons
  obtain ⟨x1, ys, _, _, rfl, d1, h⟩ := h.uncons
  obtain ⟨x2, ys, _, _, rfl, d2, h⟩ := h.uncons
  obtain ⟨x3, ys, _, _, rfl, d3, h⟩ := h.uncons
  obtain ⟨x4, ys, _, _, rfl, d4, h⟩ := h.uncons
  obtain ⟨x5, ys, _, _, rfl, d5, h⟩ := h.uncons
  obtain ⟨x6, ys, _, _, rfl, d6, h⟩ := h.uncons
  obtain ⟨x7, ys, _, _, rfl, d7, h⟩ := h.uncons
  obtain ⟨x8, ys, _, _, rfl, d8, h⟩ := h.uncons
  obtain ⟨x9, ys, _, _, rfl, d9, h⟩ := h.uncons
  obtain ⟨xa, ys, Fa, _, rfl, da, h⟩ := h.uncons
  obtain ⟨xb, ys, Fb, _, rfl, db, h⟩ := h.uncons
  obtain ⟨xc, ys, _, _, rfl, dc, h⟩ := h.uncons
  unfold DvsAt at h
  obtain ⟨rfl, _⟩ := h
  obtain ⟨ev, rfl, e1, e2, e3, e4, e5, e6⟩ := sub_gv (k := (gxO m.guard).kind) (n := (gxO m.guard).num) (s := (gxO m.guard).name) (op := (gxO m.guard).op) (p := (gxO m.guard).p) d8
  refine ⟨ev, xa, xb, Fa, Fb, ?_, ?_, da, db⟩
  · rw [d0.v, d1.v, d2.v, d3.v, d4.v, d5.v, d6.v, d7.v, d9.v, dc.v, e1, e2, e3, e4, e5]
  · cases hx : gxO m.guard with
    | mk k n s o l p => rw [hx] at e6; exact e6

/-- Moves that agree; in their places too, if asked for. -/
def mG (pl : Bool) (a b : SyMove) : Prop := a.kind = b.kind ∧ a.event = b.event ∧ a.wait = b.wait ∧ a.guarded = b.guarded ∧ sm pl (gxO a.guard) (gxO b.guard) = true ∧ asG pl a.acts b.acts ∧ a.targets = b.targets ∧ (pl = true → a.at_ = b.at_)

set_option maxHeartbeats 3200000 in
set_option maxRecDepth 20000 in
theorem samemove_any (w : World) (pl o o' : Bool) (m q : SyMove) (xs ys : List Value) (F F' : List Nat) (h : DvsAt w (dvMove o m) xs F) (h' : DvsAt w (dvMove o' q) ys F') (hs : mG pl m q) :
    Calls Tryz.prog 50 #[.agg xs.toArray, .agg ys.toArray, .bool pl] w fun e w' => e = .returned (.bool true) ∧ Below w.heap.size w w' := by
  obtain ⟨me, va, vt, Fa, Ft, rfl, mg, ma, mt⟩ := move_vals h
  obtain ⟨qe, ua, ut, Ga, Gt, rfl, qg, qa, qt⟩ := move_vals h'
  obtain ⟨mA, mc, rfl, _⟩ := acts_slice ma
  obtain ⟨qA, qc, rfl, _⟩ := acts_slice qa
  obtain ⟨mT, md, rfl, mt1, mt2, mt3⟩ := strs_at mt
  obtain ⟨qT, qd, rfl, qt1, qt2, qt3⟩ := strs_at qt
  obtain ⟨X, hX⟩ := str_of m.event
  obtain ⟨Y, hY⟩ := str_of q.event
  obtain ⟨s1, s2, s3, s4, s5, s6, s7, s8⟩ := hs
  have hXY : X = Y := by
    have : txV m.event = txV q.event := by rw [s2]
    rw [hX, hY] at this
    injection this
  subst hXY
  rw [hX, hY]
  obtain ⟨g1, hg1⟩ : ∃ g, g = w.heap.size := ⟨_, rfl⟩
  obtain ⟨g2, hg2⟩ : ∃ g, g = w.heap.size + 1 := ⟨_, rfl⟩
  obtain ⟨Wa, hWa⟩ : ∃ W, W = w.alloc (.cells #[.int .i64 m.kind, .string X, .int .i64 m.wait, .bool m.guarded, .int .i64 me.kind, .int .i64 me.num, .string me.name, .int .i64 me.op, .slice me.A me.len me.cap, .int .i64 me.p, .slice mA m.acts.length mc, .slice mT m.targets.length md, .int .i64 m.at_] 56) := ⟨_, rfl⟩
  obtain ⟨W0, hW0⟩ : ∃ W, W = Wa.alloc (.cells #[.int .i64 q.kind, .string X, .int .i64 q.wait, .bool q.guarded, .int .i64 qe.kind, .int .i64 qe.num, .string qe.name, .int .i64 qe.op, .slice qe.A qe.len qe.cap, .int .i64 qe.p, .slice qA q.acts.length qc, .slice qT q.targets.length qd, .int .i64 q.at_] 56) := ⟨_, rfl⟩
  have hsa : Wa.heap.size = w.heap.size + 1 := by rw [hWa]; simp
  have HX : Hid (CB W0 g1 56 [.int .i64 m.kind, .string X, .int .i64 m.wait, .bool m.guarded, .int .i64 me.kind, .int .i64 me.num, .string me.name, .int .i64 me.op, .slice me.A me.len me.cap, .int .i64 me.p, .slice mA m.acts.length mc, .slice mT m.targets.length md, .int .i64 m.at_]) := by rw [hW0, hWa, hg1]; exact (CB.new w _ [.int .i64 m.kind, .string X, .int .i64 m.wait, .bool m.guarded, .int .i64 me.kind, .int .i64 me.num, .string me.name, .int .i64 me.op, .slice me.A me.len me.cap, .int .i64 me.p, .slice mA m.acts.length mc, .slice mT m.targets.length md, .int .i64 m.at_]).alloc _
  have HY : Hid (CB W0 g2 56 [.int .i64 q.kind, .string X, .int .i64 q.wait, .bool q.guarded, .int .i64 qe.kind, .int .i64 qe.num, .string qe.name, .int .i64 qe.op, .slice qe.A qe.len qe.cap, .int .i64 qe.p, .slice qA q.acts.length qc, .slice qT q.targets.length qd, .int .i64 q.at_]) := by
    have := CB.new Wa 56 [.int .i64 q.kind, .string X, .int .i64 q.wait, .bool q.guarded, .int .i64 qe.kind, .int .i64 qe.num, .string qe.name, .int .i64 qe.op, .slice qe.A qe.len qe.cap, .int .i64 qe.p, .slice qA q.acts.length qc, .slice qT q.targets.length qd, .int .i64 q.at_]
    rw [hsa, ← hg2] at this
    rw [hW0]
    exact this
  have HB : Hid (Below w.heap.size w W0) := by rw [hW0, hWa]; exact ((Below.refl _ w).alloc (Nat.le_refl _) _).alloc (by simp) _
  have HC1 := Lib.hid (esame_any W0 (gxO m.guard) (gxO q.guard) me qe pl ((GV.below mg HB.out (Nat.le_refl _)).mono (Nat.le_refl _) HB.out.size) ((GV.below qg HB.out (Nat.le_refl _)).mono (Nat.le_refl _) HB.out.size))
  rw [s5] at HC1
  simp only [EV.val] at HC1
  have HC2 := Lib.hid (fun (W : World) (hb : Below w.heap.size w W) => sameacts_any W pl o o' m.acts q.acts _ _ _ _ (ma.below hb) (qa.below hb) s6)
  have HC3 := Lib.hid (fun (W : World) (hb : Below w.heap.size w W) => rsame6_any W mT qT m.targets.length md q.targets.length qd _ _ (mt3.below hb) (qt3.below hb) (by simp) (by simp) ⟨mt1, mt2⟩ ⟨qt1, qt2⟩)
  have hdec : decide ((m.targets.map fun s => (⟨s.toArray⟩ : ByteArray)) = q.targets.map fun s => (⟨s.toArray⟩ : ByteArray)) = true := by rw [s7]; exact decide_eq_true rfl
  simp only [hdec] at HC3
  have q1 := HX.out.c 4 rfl
  have q2 := HX.out.c 5 rfl
  have q3 := HX.out.c 6 rfl
  have q4 := HX.out.c 7 rfl
  have q5 := HX.out.c 8 rfl
  have q6 := HX.out.c 9 rfl
  have r1 := HY.out.c 4 rfl
  have r2 := HY.out.c 5 rfl
  have r3 := HY.out.c 6 rfl
  have r4 := HY.out.c 7 rfl
  have r5 := HY.out.c 8 rfl
  have r6 := HY.out.c 9 rfl
  have HS := Lib.hid (And.intro s1 (And.intro s3 (And.intro s4 s8)))
  have HTL : Hid (m.targets.length = q.targets.length) := by show _ = _; rw [s7]
  clear h h' mg qg ma qa mt qt mt1 mt2 mt3 qt1 qt2 qt3 s1 s2 s3 s4 s5 s6 s7 s8 hX hY hsa
  go_enter Tryz.func50, Tryz.ntmps50
  go_upto_region 1 with fail
  rw [← hWa, ← hW0, ← hg2, ← hg1]
  clear hWa hW0 hg2 hg1
  go_wp2_with fail
  refine HC1.out.mono ?_
  rintro e w1 ⟨rfl, hb⟩
  have HX1 := Lib.hid (HX.out.below hb)
  have HY1 := Lib.hid (HY.out.below hb)
  have HB1 := Lib.hid (HB.out.trans (hb.mono HB.out.size))
  have HCA := Lib.hid (HC2.out w1 HB1.out)
  have x1 := HX1.out.c 10 rfl
  have y1 := HY1.out.c 10 rfl
  clear hb HC1 HX HY HB HC2 q1 q2 q3 q4 q5 q6 r1 r2 r3 r4 r5 r6
  go_wp2_with fail
  refine HCA.out.mono ?_
  rintro e w2 ⟨rfl, hb⟩
  have HX2 := Lib.hid (HX1.out.below hb)
  have HY2 := Lib.hid (HY1.out.below hb)
  have HB2 := Lib.hid (HB1.out.trans (hb.mono HB1.out.size))
  have HCB := Lib.hid (HC3.out w2 HB2.out)
  have x2 := HX2.out.c 11 rfl
  have y2 := HY2.out.c 11 rfl
  clear hb HCA HX1 HY1 HB1 HC3 x1 y1
  go_wp2_with fail
  refine HCB.out.mono ?_
  rintro e w3 ⟨rfl, hb⟩
  have HX3 := Lib.hid (HX2.out.below hb)
  have HY3 := Lib.hid (HY2.out.below hb)
  have HB3 := Lib.hid (HB2.out.trans (hb.mono HB2.out.size))
  obtain ⟨s1, s3, s4, s8⟩ := HS.out
  have x0 := HX3.out.c 0 rfl
  have x1 := HX3.out.c 1 rfl
  have x2 := HX3.out.c 2 rfl
  have x3 := HX3.out.c 3 rfl
  have x12 := HX3.out.c 12 rfl
  have y0 := HY3.out.c 0 rfl
  have y1 := HY3.out.c 1 rfl
  have y2 := HY3.out.c 2 rfl
  have y3 := HY3.out.c 3 rfl
  have y12 := HY3.out.c 12 rfl
  have t1 : (m.kind == q.kind) = true := by simp [s1]
  have t2 : (m.wait == q.wait) = true := by simp [s3]
  have t3 : (m.guarded == q.guarded) = true := by simp [s4]
  clear hb HCB HX2 HY2 HB2 s1 s3 s4
  cases pl
  · clear s8 x12 y12
    go_wp2_with fail
    go_ret
    exact ⟨rfl, HB3.out⟩
  · have t4 : (m.at_ == q.at_) = true := by simp [s8 rfl]
    clear s8
    go_wp2_with fail
    go_ret
    exact ⟨rfl, HB3.out⟩

end Go.Proofs.YtcddbfdbhjkjgaaGreatDoor
