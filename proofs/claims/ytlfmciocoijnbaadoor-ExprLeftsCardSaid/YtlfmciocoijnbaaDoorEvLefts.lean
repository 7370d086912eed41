/-
  The law ExprLefts: its walk.
-/
import Derived.Test.YtlfmciocoijnbaaDoorEvDeeps
import Derived.StillTailTactics
namespace Go.Proofs.YtlfmciocoijnbaaDoor
open Go.RowKit

/-- The operators of two in the law's order. -/
def opL : List Int := [13, 12, 10, 11, 6, 7, 8, 9, 1, 2, 3, 4, 5]

theorem opL_row {i : Nat} {a : Int} (h : opL[i]? = some a) : rowOf a < 6 := by
  have hm := List.mem_of_getElem? h
  simp only [opL, List.mem_cons, List.not_mem_nil, or_false] at hm
  rcases hm with rfl | rfl | rfl | rfl | rfl | rfl | rfl | rfl | rfl | rfl | rfl | rfl | rfl <;> decide

def sgCs : Array Value := (opL.map (fun o => Value.string ⟨(sgOf o).toArray⟩)).toArray
def rwCs : Array Value := (opL.map (fun o => Value.int .i64 ((rowOf o : Nat) : Int))).toArray

theorem er_both' {y : Ex} {op : Int} {a b : Ex} (h : y.er = .both op a b) : ∃ y1 y2, y = .both op y1 y2 ∧ y1.er = a ∧ y2.er = b := by
  cases y <;> simp only [Ex.er, Ex.both.injEq, reduceCtorEq] at h
  obtain ⟨rfl, h2, h3⟩ := h
  exact ⟨_, _, rfl, h2, h3⟩

/-- What the law's text is read as. -/
theorem left_kinds {a b : Int} {y : Ex} (h : y.er = leftX a b) : ∃ op y1 y2, y = .both op y1 y2 ∧ ((rowOf b ≤ rowOf a ∧ y1.gx.kind = 5 ∧ y2.gx.kind = 2) ∨ (¬ rowOf b ≤ rowOf a ∧ y1.gx.kind = 2 ∧ y2.gx.kind = 5)) := by
  unfold leftX at h
  split at h
  · rename_i hc
    obtain ⟨y1, y2, rfl, h1, h2⟩ := er_both' h
    obtain ⟨z1, z2, rfl, _⟩ := er_both' h1
    obtain ⟨p, rfl⟩ := er_var h2
    exact ⟨_, _, _, rfl, .inl ⟨hc, rfl, rfl⟩⟩
  · rename_i hc
    obtain ⟨y1, y2, rfl, h1, h2⟩ := er_both' h
    obtain ⟨z1, z2, rfl, _⟩ := er_both' h2
    obtain ⟨p, rfl⟩ := er_var h1
    exact ⟨_, _, _, rfl, .inr ⟨hc, rfl, rfl⟩⟩

theorem bel_alloc {u W : World} (h : Hid (Below u.heap.size u W)) (o : Obj) : Hid (Below u.heap.size u (W.alloc o)) := h.out.alloc h.out.size o
theorem bel_drew {u W : World} (h : Hid (Below u.heap.size u W)) : Hid (Below u.heap.size u W.drew) := h.out.drew
theorem bel_set {u W : World} {p : Addr} {x : Value} (h : Hid (Below u.heap.size u W)) (hp : u.heap.size ≤ p.block) : Hid (Below u.heap.size u (W.setCell p x)) := h.out.setCell hp x

/-- A box made ahead of a call is there behind it. -/
theorem keep_x {Wc w5 : World} {g : Nat} (hb : Hid (Below Wc.heap.size Wc w5)) (h : XpB Wc g ev0) : Hid (XpB w5 g ev0) ∧ (¬ w5.heap.size = g ∧ ¬ g = w5.heap.size) ∧ w5.cell? ⟨g, 0, none⟩ = some (.int .i64 0) ∧ w5.cell? ⟨g, 1, none⟩ = some (.int .i64 0) ∧ w5.cell? ⟨g, 2, none⟩ = some (.string ⟨#[]⟩) ∧ w5.cell? ⟨g, 3, none⟩ = some (.int .i64 0) ∧ w5.cell? ⟨g, 4, none⟩ = some (.slice none 0 0) ∧ w5.cell? ⟨g, 5, none⟩ = some (.int .i64 0) ∧ w5.frozen? ⟨g, 0, none⟩ = false ∧ w5.frozen? ⟨g, 1, none⟩ = false ∧ w5.frozen? ⟨g, 2, none⟩ = false ∧ w5.frozen? ⟨g, 3, none⟩ = false ∧ w5.frozen? ⟨g, 4, none⟩ = false ∧ w5.frozen? ⟨g, 5, none⟩ = false ∧ (∀ ob : Obj, (w5.alloc ob).cell? ⟨g, 0, none⟩ = some (.int .i64 0)) ∧ (∀ ob : Obj, (w5.alloc ob).cell? ⟨g, 1, none⟩ = some (.int .i64 0)) ∧ (∀ ob : Obj, (w5.alloc ob).cell? ⟨g, 2, none⟩ = some (.string ⟨#[]⟩)) ∧ (∀ ob : Obj, (w5.alloc ob).cell? ⟨g, 3, none⟩ = some (.int .i64 0)) ∧ (∀ ob : Obj, (w5.alloc ob).cell? ⟨g, 4, none⟩ = some (.slice none 0 0)) ∧ (∀ ob : Obj, (w5.alloc ob).cell? ⟨g, 5, none⟩ = some (.int .i64 0)) ∧ (∀ ob : Obj, (w5.alloc ob).frozen? ⟨g, 0, none⟩ = false) ∧ (∀ ob : Obj, (w5.alloc ob).frozen? ⟨g, 1, none⟩ = false) ∧ (∀ ob : Obj, (w5.alloc ob).frozen? ⟨g, 2, none⟩ = false) ∧ (∀ ob : Obj, (w5.alloc ob).frozen? ⟨g, 3, none⟩ = false) ∧ (∀ ob : Obj, (w5.alloc ob).frozen? ⟨g, 4, none⟩ = false) ∧ (∀ ob : Obj, (w5.alloc ob).frozen? ⟨g, 5, none⟩ = false) :=
  have k := h.below hb.out
  ⟨k, ⟨by have := k.lt; omega, by have := k.lt; omega⟩, k.c0, k.c1, k.c2, k.c3, k.c4, k.c5, k.fr 0, k.fr 1, k.fr 2, k.fr 3, k.fr 4, k.fr 5, fun ob => (k.alloc ob).c0, fun ob => (k.alloc ob).c1, fun ob => (k.alloc ob).c2, fun ob => (k.alloc ob).c3, fun ob => (k.alloc ob).c4, fun ob => (k.alloc ob).c5, fun ob => (k.alloc ob).fr 0, fun ob => (k.alloc ob).fr 1, fun ob => (k.alloc ob).fr 2, fun ob => (k.alloc ob).fr 3, fun ob => (k.alloc ob).fr 4, fun ob => (k.alloc ob).fr 5⟩
theorem keep_f {Wc w5 : World} {g : Nat} (hb : Hid (Below Wc.heap.size Wc w5)) (h : FtB Wc g (.int .i64 0) (.int .i64 0)) : Hid (FtB w5 g (.int .i64 0) (.int .i64 0)) ∧ (¬ w5.heap.size = g ∧ ¬ g = w5.heap.size) ∧ w5.cell? ⟨g, 0, none⟩ = some (.int .i64 0) ∧ w5.cell? ⟨g, 1, none⟩ = some (.int .i64 0) ∧ w5.frozen? ⟨g, 0, none⟩ = false ∧ w5.frozen? ⟨g, 1, none⟩ = false ∧ (∀ ob : Obj, (w5.alloc ob).cell? ⟨g, 0, none⟩ = some (.int .i64 0)) ∧ (∀ ob : Obj, (w5.alloc ob).cell? ⟨g, 1, none⟩ = some (.int .i64 0)) ∧ (∀ ob : Obj, (w5.alloc ob).frozen? ⟨g, 0, none⟩ = false) ∧ (∀ ob : Obj, (w5.alloc ob).frozen? ⟨g, 1, none⟩ = false) :=
  have k := h.below hb.out
  ⟨k, ⟨by have := k.lt; omega, by have := k.lt; omega⟩, k.c0, k.c1, k.fr 0, k.fr 1, fun ob => (k.alloc ob).c0, fun ob => (k.alloc ob).c1, fun ob => (k.alloc ob).fr 0, fun ob => (k.alloc ob).fr 1⟩

theorem x_new (W : World) : XpB (W.alloc (.cells #[.int .i64 0, .int .i64 0, .string ⟨#[]⟩, .int .i64 0, .slice none 0 0, .int .i64 0] 24)) W.heap.size ev0 := XpB.new W ev0
theorem x_new2 (W : World) (o : Obj) : XpB ((W.alloc o).alloc (.cells #[.int .i64 0, .int .i64 0, .string ⟨#[]⟩, .int .i64 0, .slice none 0 0, .int .i64 0] 24)) (W.heap.size + 1) ev0 := by
  have e : (W.alloc o).heap.size = W.heap.size + 1 := by simp
  rw [← e]
  exact XpB.new _ ev0
theorem f_new (W : World) : FtB (W.alloc (.cells #[.int .i64 0, .int .i64 0] 30)) W.heap.size (.int .i64 0) (.int .i64 0) := FtB.new W _ _
theorem f_new2 (W : World) (o : Obj) : FtB ((W.alloc o).alloc (.cells #[.int .i64 0, .int .i64 0] 30)) (W.heap.size + 1) (.int .i64 0) (.int .i64 0) := by
  have e : (W.alloc o).heap.size = W.heap.size + 1 := by simp
  rw [← e]
  exact FtB.new _ _ _
theorem XpB.drewn {W : World} {g : Nat} {v : EV} (h : XpB W g v) : XpB W.drew g v := h
theorem FtB.drewn {W : World} {g : Nat} {x y : Value} (h : FtB W g x y) : FtB W.drew g x y := h

theorem left_fin {u base : World} {g1 g2 lo hi : Nat} {v : EV} {x : GX} (HX : XpB base g1 ev0) (HF : FtB base g2 (.int .i64 0) (.int .i64 0)) (hne : g1 ≠ g2) (hg : GV base lo hi x v) (h1 : g1 < lo ∨ hi ≤ g1) (h2 : g2 < lo ∨ hi ≤ g2)
    (hb : Hid (Below u.heap.size u base)) (b1 : u.heap.size ≤ g1) (b2 : u.heap.size ≤ g2) :
    ∃ W9, W9 = res2 base g1 g2 v 0 0 ∧ Hid (XpB W9 g1 v) ∧ Hid (FtB W9 g2 (.int .i64 0) (.int .i64 0)) ∧ Hid (GV W9 lo hi x v) ∧ Hid (Below u.heap.size u W9) := by
  refine ⟨_, rfl, res2_x HX hne v 0 0, res2_f HF hne v 0 0, ?_, res2_below hb.out b1 b2 v 0 0⟩
  refine hg.same (fun g a b => ?_)
  have hlt : ∀ {k : Nat}, XpB base k ev0 → k < base.heap.size := fun h => h.lt
  unfold res2
  have m1 : (six base g1 v).heap[g]? = base.heap[g]? := by
    have e : ∀ (W : World) (j : Nat) (z : Value), (W.setCell ⟨g1, j, none⟩ z).heap[g]? = W.heap[g]? := fun W j z => Below.heap_setCell W ⟨g1, j, none⟩ z g (by show g ≠ g1; omega)
    unfold six
    rw [e, e, e, e, e, e]
  have m2 : ∀ W : World, (two W g2 0 0).heap[g]? = W.heap[g]? := fun W => by
    have e : ∀ (W : World) (j : Nat) (z : Value), (W.setCell ⟨g2, j, none⟩ z).heap[g]? = W.heap[g]? := fun W j z => Below.heap_setCell W ⟨g2, j, none⟩ z g (by show g ≠ g2; omega)
    unfold two
    rw [e, e]
  rw [m2, m1]

theorem sz1 (W : World) (o : Obj) : (W.alloc o).heap.size = W.heap.size + 1 := by simp
theorem lt1 (W : World) (o : Obj) : W.heap.size < (W.alloc o).drew.heap.size := by
  have e : (W.alloc o).drew.heap.size = (W.alloc o).heap.size := rfl
  rw [e, sz1]; omega
theorem lt2 (W : World) (o o' : Obj) : W.heap.size < ((W.alloc o).alloc o').drew.heap.size := by
  have e : ((W.alloc o).alloc o').drew.heap.size = ((W.alloc o).alloc o').heap.size := rfl
  rw [e, sz1, sz1]; omega
theorem lt3 (W : World) (o o' : Obj) : W.heap.size + 1 < ((W.alloc o).alloc o').drew.heap.size := by
  have e : ((W.alloc o).alloc o').drew.heap.size = ((W.alloc o).alloc o').heap.size := rfl
  rw [e, sz1, sz1]; omega

section
variable {u w5 : World} {lo : Nat} {v : EV} {x : GX}
theorem fin1 (hb : Hid (Below u.heap.size u w5)) (hg : Hid (GV w5 lo w5.heap.size x v)) : ∃ W9, W9 = (w5.alloc (.cells #[.int .i64 v.kind, .int .i64 v.num, .string v.name, .int .i64 v.op, .slice v.A v.len v.cap, .int .i64 v.p] 24)).alloc (.cells #[.int .i64 0, .int .i64 0] 30) ∧
    Hid (XpB W9 w5.heap.size v) ∧ Hid (FtB W9 (w5.heap.size + 1) (.int .i64 0) (.int .i64 0)) ∧ Hid (GV W9 lo w5.heap.size x v) ∧ Hid (Below u.heap.size u W9) :=
  ⟨_, rfl, (XpB.new w5 v).alloc _, f_new2 w5 _, hg.out.same (fun g _ h => (Below.heap_alloc _ _ g (by rw [sz1]; omega)).trans (Below.heap_alloc w5 _ g h)), bel_alloc (bel_alloc hb _) _⟩
theorem fin2 (hb : Hid (Below u.heap.size u w5)) (hg : Hid (GV w5 lo w5.heap.size x v)) : ∃ W9, W9 = (w5.alloc (.cells #[.int .i64 0, .int .i64 0] 30)).alloc (.cells #[.int .i64 v.kind, .int .i64 v.num, .string v.name, .int .i64 v.op, .slice v.A v.len v.cap, .int .i64 v.p] 24) ∧
    Hid (XpB W9 (w5.heap.size + 1) v) ∧ Hid (FtB W9 w5.heap.size (.int .i64 0) (.int .i64 0)) ∧ Hid (GV W9 lo w5.heap.size x v) ∧ Hid (Below u.heap.size u W9) :=
  ⟨_, rfl, by rw [← sz1 w5 (.cells #[.int .i64 0, .int .i64 0] 30)]; exact XpB.new _ v, (f_new w5).alloc _, hg.out.same (fun g _ h => (Below.heap_alloc _ _ g (by rw [sz1]; omega)).trans (Below.heap_alloc w5 _ g h)), bel_alloc (bel_alloc hb _) _⟩
theorem fin3 {g : Nat} (HX : Hid (XpB w5 g ev0)) (hb : Hid (Below u.heap.size u w5)) (hg : Hid (GV w5 lo w5.heap.size x v)) (hlo : g < lo) (b1 : u.heap.size ≤ g) : ∃ W9, W9 = res2 (w5.alloc (.cells #[.int .i64 0, .int .i64 0] 30)) g w5.heap.size v 0 0 ∧
    Hid (XpB W9 g v) ∧ Hid (FtB W9 w5.heap.size (.int .i64 0) (.int .i64 0)) ∧ Hid (GV W9 lo w5.heap.size x v) ∧ Hid (Below u.heap.size u W9) :=
  left_fin (HX.out.alloc _) (f_new w5) (by have := HX.out.lt; omega) (hg.out.same (fun k _ h => Below.heap_alloc w5 _ k h)) (.inl hlo) (.inr (Nat.le_refl _)) (bel_alloc hb _) b1 hb.out.size
theorem fin4 {g1 g2 : Nat} (HX : Hid (XpB w5 g1 ev0)) (HF : Hid (FtB w5 g2 (.int .i64 0) (.int .i64 0))) (hne : g1 ≠ g2) (hb : Hid (Below u.heap.size u w5)) (hg : Hid (GV w5 lo w5.heap.size x v)) (h1 : g1 < lo) (h2 : g2 < lo) (b1 : u.heap.size ≤ g1) (b2 : u.heap.size ≤ g2) : ∃ W9, W9 = res2 w5 g1 g2 v 0 0 ∧
    Hid (XpB W9 g1 v) ∧ Hid (FtB W9 g2 (.int .i64 0) (.int .i64 0)) ∧ Hid (GV W9 lo w5.heap.size x v) ∧ Hid (Below u.heap.size u W9) :=
  left_fin HX.out HF.out hne hg.out (.inl h1) (.inl h2) hb b1 b2
theorem fin5 {g : Nat} (HF : Hid (FtB w5 g (.int .i64 0) (.int .i64 0))) (hb : Hid (Below u.heap.size u w5)) (hg : Hid (GV w5 lo w5.heap.size x v)) (hlo : g < lo) (b1 : u.heap.size ≤ g) : ∃ W9, W9 = two (w5.alloc (.cells #[.int .i64 v.kind, .int .i64 v.num, .string v.name, .int .i64 v.op, .slice v.A v.len v.cap, .int .i64 v.p] 24)) g 0 0 ∧
    Hid (XpB W9 w5.heap.size v) ∧ Hid (FtB W9 g (.int .i64 0) (.int .i64 0)) ∧ Hid (GV W9 lo w5.heap.size x v) ∧ Hid (Below u.heap.size u W9) := by
  have hlt := HF.out.lt
  refine ⟨_, rfl, (XpB.new w5 v).mv (two_mv _ g 0 0) (by omega), (HF.out.alloc _).two 0 0, hg.out.same (fun k h h' => ?_), below_two (bel_alloc hb _).out b1 _ _⟩
  have e : ∀ (W : World) (j : Nat) (z : Value), (W.setCell ⟨g, j, none⟩ z).heap[k]? = W.heap[k]? := fun W j z => Below.heap_setCell W ⟨g, j, none⟩ z k (by show k ≠ g; omega)
  unfold two
  rw [e, e]
  exact Below.heap_alloc w5 _ k h'
end

theorem left_facts {W9 W3 : World} {lo hi g1 g2 gB i k : Nat} {v : EV} {opy opa opb : Int} {y1 y2 y : Ex} (HX : Hid (XpB W9 g1 v)) (HF : Hid (FtB W9 g2 (.int .i64 0) (.int .i64 0))) (HG : Hid (GV W9 lo hi y.gx v)) (HB : Hid (Below W3.heap.size W3 W9)) (HY : Hid (y = .both opy y1 y2))
    (HBR : Hid (gB < W3.heap.size ∧ W3.heap[gB]? = some (.cells rwCs 3 (0, 0)))) (HOA : Hid (opL[i]? = some opa)) (HOB : Hid (opL[k]? = some opb))
    (HKD : Hid ((rowOf opb ≤ rowOf opa ∧ y1.gx.kind = 5 ∧ y2.gx.kind = 2) ∨ (¬ rowOf opb ≤ rowOf opa ∧ y1.gx.kind = 2 ∧ y2.gx.kind = 5))) :
    ∃ (go o cap ra rb : Nat) (ka kb : Int), W9.cell? ⟨g1, 4, none⟩ = some (.slice (some ⟨go, o, none⟩) 2 cap) ∧ 2 ≤ cap ∧ W9.cell? ⟨g2, 0, none⟩ = some (.int .i64 0) ∧ W9.cell? ⟨go, o, none⟩ = some (.int .i64 ka) ∧ W9.cell? ⟨go, o + 6, none⟩ = some (.int .i64 kb) ∧
      W9.cell? ⟨gB, i, none⟩ = some (.int .i64 (ra : Int)) ∧ W9.cell? ⟨gB, k, none⟩ = some (.int .i64 (rb : Int)) ∧ ((rb ≤ ra ∧ ka = 5 ∧ kb = 2) ∨ (¬ rb ≤ ra ∧ ka = 2 ∧ kb = 5)) := by
  have z4 := HX.out.c4
  have hgv := HG.out
  rw [HY.out] at hgv
  obtain ⟨l1, l2, l3, l4, l5, l6, l7, l8, l9⟩ := hgv.out
  obtain ⟨go, o, va, hA, _, _, hev, hga⟩ := l9.get 0 y1.gx rfl
  obtain ⟨go', o', vb, hA', _, _, hev', hgb⟩ := l9.get 1 y2.gx rfl
  obtain ⟨rfl, rfl⟩ : go' = go ∧ o' = o := by
    rw [hA] at hA'
    injection hA' with hA'
    injection hA' with h1 h2
    exact ⟨h1.symm, h2.symm⟩
  have eo : o' + (0 + 0) * 6 = o' := by omega
  have eo' : o' + (0 + 1) * 6 = o' + 6 := by omega
  rw [eo] at hev
  rw [eo'] at hev'
  have ka : va.kind = y1.gx.kind := hga.out.1
  have kb : vb.kind = y2.gx.kind := hgb.out.1
  have t0 := hev.1
  have t1 := hev'.1
  have hlen : v.len = 2 := l6
  have hcap : 2 ≤ v.cap := by rw [← hlen]; exact l7
  have hrw : W9.heap[gB]? = some (.cells rwCs 3 (0, 0)) := (HB.out.block gB HBR.out.1).trans HBR.out.2
  have r1 : W9.cell? ⟨gB, i, none⟩ = some (.int .i64 ((rowOf opa : Nat) : Int)) := by
    rw [cell_of_row _ _ _ _ _ _ hrw]
    simp [rwCs, HOA.out]
  have r2 : W9.cell? ⟨gB, k, none⟩ = some (.int .i64 ((rowOf opb : Nat) : Int)) := by
    rw [cell_of_row _ _ _ _ _ _ hrw]
    simp [rwCs, HOB.out]
  rw [hA, hlen] at z4
  refine ⟨go', o', v.cap, rowOf opa, rowOf opb, va.kind, vb.kind, z4, hcap, HF.out.c0, t0, t1, r1, r2, ?_⟩
  rw [ka, kb]
  exact HKD.out

set_option maxHeartbeats 6400000 in
set_option maxRecDepth 20000 in
theorem lefts_law (a1 a2 : Int) (w : World) (_h1 : (Lit.int .i64 a1).wf = true) (_h2 : (Lit.int .i64 a2).wf = true) (hK : KwAt w) (hEr : ErrAt w) (hSg : SgAt w) (hPw : PowTab w) :
    Calls Tryd.prog 6 #[.int .i64 a1, .int .i64 a2] w fun e w' => e = .returned (.bool true) ∧ Below w.heap.size w w' := by
  have HEE : Hid (Ee w) := ⟨⟨hK, hEr⟩, hSg, hPw⟩
  have HS := Lib.hid (small_any w HEE.out)
  obtain ⟨n, hn31, hn⟩ := and_mask a1 1023 (by decide)
  obtain ⟨m, hm31, hm⟩ := and_mask a2 1023 (by decide)
  replace hn : bits .and .i64 a1 1023 = (n : Int) := hn
  replace hm : bits .and .i64 a2 1023 = (m : Int) := hm
  obtain ⟨i, hi⟩ : ∃ i, n % 13 = i := ⟨_, rfl⟩
  obtain ⟨k, hk⟩ : ∃ k, m % 13 = k := ⟨_, rfl⟩
  have hi13 : i < 13 := by omega
  have hk13 : k < 13 := by omega
  have t1 : (n : Int).tmod 13 = (i : Int) := by rw [Int.tmod_eq_emod_of_nonneg (by omega)]; omega
  have t2 : (m : Int).tmod 13 = (k : Int) := by rw [Int.tmod_eq_emod_of_nonneg (by omega)]; omega
  have hi13' : (i : Int) < 13 := by omega
  have hk13' : (k : Int) < 13 := by omega
  obtain ⟨opa, hoa⟩ : ∃ o, opL[i]? = some o := ⟨_, List.getElem?_eq_getElem (show i < opL.length from hi13)⟩
  obtain ⟨opb, hob⟩ : ∃ o, opL[k]? = some o := ⟨_, List.getElem?_eq_getElem (show k < opL.length from hk13)⟩
  obtain ⟨SA, hSA⟩ : ∃ S : ByteArray, S = ⟨(sgOf opa).toArray⟩ := ⟨_, rfl⟩
  obtain ⟨SB, hSB⟩ : ∃ S : ByteArray, S = ⟨(sgOf opb).toArray⟩ := ⟨_, rfl⟩
  have hra := opL_row hoa
  have hrb := opL_row hob
  have hsa : SA.size ≤ 2 := by
    have h1 : SA.data.toList.length = SA.size := rfl
    have := sg_len hra
    have h2 : SA.data.toList = sgOf opa := by rw [hSA]
    rw [h2] at h1
    omega
  have hsb : SB.size ≤ 2 := by
    have h1 : SB.data.toList.length = SB.size := rfl
    have := sg_len hrb
    have h2 : SB.data.toList = sgOf opb := by rw [hSB]
    rw [h2] at h1
    omega
  obtain ⟨N, hN⟩ : ∃ N : ByteArray, N = ⟨#[112, 32]⟩ ++ SA ++ ⟨#[32, 113, 32]⟩ ++ SB ++ ⟨#[32, 114]⟩ := ⟨_, rfl⟩
  have hNl : N.data.toList = leftT opa opb := by rw [hN, hSA, hSB]; unfold leftT; simp
  obtain ⟨y, hy, hye⟩ := rd_left hra hrb
  rw [← hNl] at hy
  obtain ⟨opy, y1, y2, rfl, hkinds⟩ := left_kinds hye
  obtain ⟨y, hyy⟩ : ∃ y : Ex, y = .both opy y1 y2 := ⟨_, rfl⟩
  rw [← hyy] at hy
  have HYY := Lib.hid hyy
  have HKD := Lib.hid hkinds
  have HYR := Lib.hid hy
  have HNN := Lib.hid hN.symm
  have HOA := Lib.hid hoa
  have HOB := Lib.hid hob
  have HSA := Lib.hid hSA
  have HSB := Lib.hid hSB
  have HI := Lib.hid hi13
  have HKK := Lib.hid hk13
  clear hK hEr hSg hPw _h1 _h2 hi hk hi13 hk13 hoa hob hSA hSB hra hrb hN hNl hy hye hyy hkinds hn31 hm31
  go_enter Tryd.func6, Tryd.ntmps6
  go_wp2_with fail
  refine HS.out.mono ?_
  rintro e w1 ⟨rfl, hb1⟩
  have HB1 := Lib.hid hb1
  have HE1 := Lib.hid (HEE.out.below hb1)
  clear hb1 HS
  obtain ⟨gA, hgA⟩ : ∃ g, g = w1.heap.size := ⟨_, rfl⟩
  obtain ⟨gB, hgB⟩ : ∃ g, g = w1.heap.size + 1 := ⟨_, rfl⟩
  obtain ⟨W3, hW3⟩ : ∃ W3, W3 = (w1.alloc (.cells sgCs 9)).alloc (.cells rwCs 3) := ⟨_, rfl⟩
  have hb3 : Below w1.heap.size w1 W3 := by rw [hW3]; exact ((Below.refl _ w1).alloc (Nat.le_refl _) _).alloc (by simp) _
  have hA : W3.heap[gA]? = some (.cells sgCs 9 (0, 0)) := by
    rw [hW3, hgA]
    exact (Below.heap_alloc _ _ _ (by simp)).trans (heap_alloc_new w1 _)
  have hBr : W3.heap[gB]? = some (.cells rwCs 3 (0, 0)) := by
    have e : gB = (w1.alloc (.cells sgCs 9)).heap.size := by rw [hgB]; simp
    rw [hW3, e]
    exact heap_alloc_new _ _
  have HBR := Lib.hid (And.intro (heap_lt hBr) hBr)
  have u1 : W3.cell? ⟨gA, i, none⟩ = some (.string SA) := by
    rw [cell_of_row _ _ _ _ _ _ hA, HSA.out]
    simp [sgCs, HOA.out]
  have u2 : W3.cell? ⟨gA, k, none⟩ = some (.string SB) := by
    rw [cell_of_row _ _ _ _ _ _ hA, HSB.out]
    simp [sgCs, HOB.out]
  have HB3 := Lib.hid (HB1.out.trans (hb3.mono HB1.out.size))
  have HE3 := Lib.hid (HEE.out.below HB3.out)
  unfold sgCs rwCs at hW3
  have eA : (opL.map (fun o => Value.string ⟨(sgOf o).toArray⟩)).toArray = #[.string ⟨#[124, 124]⟩, .string ⟨#[38, 38]⟩, .string ⟨#[61, 61]⟩, .string ⟨#[33, 61]⟩, .string ⟨#[60]⟩, .string ⟨#[60, 61]⟩, .string ⟨#[62]⟩, .string ⟨#[62, 61]⟩, .string ⟨#[43]⟩, .string ⟨#[45]⟩, .string ⟨#[42]⟩, .string ⟨#[47]⟩, .string ⟨#[37]⟩] := rfl
  have eB : (opL.map (fun o => Value.int .i64 ((rowOf o : Nat) : Int))).toArray = #[.int .i64 0, .int .i64 1, .int .i64 2, .int .i64 2, .int .i64 3, .int .i64 3, .int .i64 3, .int .i64 3, .int .i64 4, .int .i64 4, .int .i64 5, .int .i64 5, .int .i64 5] := rfl
  rw [eA, eB] at hW3
  clear eA eB hb3 hA hBr
  go_upto_region 6 with fail
  rw [← hW3, ← hgB, ← hgA]
  clear hW3 hgA hgB hn hm t1 t2
  have HU := Lib.hid (And.intro u1 u2)
  have hsl : gB < W3.heap.size := HBR.out.1
  have HLS : Hid (∀ W', Hid (Below W3.heap.size W3 W') → W'.cell? ⟨gA, i, none⟩ = some (.string SA) ∧ W'.cell? ⟨gA, k, none⟩ = some (.string SB) ∧ Hid (Below W3.heap.size W3 W')) := fun W' h =>
    ⟨(h.out.cell (World.block_lt_of_cell? W3 _ HU.out.1)).trans HU.out.1, (h.out.cell (World.block_lt_of_cell? W3 _ HU.out.2)).trans HU.out.2, h⟩
  have HBD : Hid (Below W3.heap.size W3 W3.drew) := (Below.refl _ W3).drew
  obtain ⟨w1', w2', _⟩ := HLS.out _ HBD
  have HB00 : Hid (Below W3.heap.size W3 W3) := Below.refl _ W3
  have hd0 : W3.heap.size ≤ W3.drew.heap.size := Nat.le_refl _
  have HRD : Hid (∀ W, Hid (Below W3.heap.size W3 W) → Calls Tryd.prog 11 #[.string (⟨#[112, 32]⟩ ++ SA ++ ⟨#[32, 113, 32]⟩ ++ SB ++ ⟨#[32, 114]⟩)] W fun e w' => ∃ v : EV, e = .returned (.tuple #[.agg #[.int .i64 v.kind, .int .i64 v.num, .string v.name, .int .i64 v.op, .slice v.A v.len v.cap, .int .i64 v.p], .agg #[.int .i64 0, .int .i64 0]]) ∧
      w'.cell? ⟨gA, i, none⟩ = some (.string SA) ∧ w'.cell? ⟨gA, k, none⟩ = some (.string SB) ∧ Hid (Below W3.heap.size W3 w') ∧ W3.heap.size ≤ w'.heap.size ∧ Hid (Below W.heap.size W w') ∧ Hid (GV w' W.heap.size w'.heap.size y.gx v)) := fun W h => by
    rw [show ({ data := #[112, 32] } : ByteArray) ++ SA ++ { data := #[32, 113, 32] } ++ SB ++ { data := #[32, 114] } = N from HNN.out]
    have hE := HEE.out.below (HB3.out.trans (h.out.mono HB3.out.size))
    refine (read_any W N hE.vr hE.vs _ HYR.out).mono ?_
    rintro e w' ⟨v, rfl, hv, hb⟩
    have hbb : Below W3.heap.size W3 w' := h.out.trans (hb.mono h.out.size)
    obtain ⟨c1, c2, c3⟩ := HLS.out w' hbb
    exact ⟨v, rfl, c1, c2, c3, hbb.size, hb, hv⟩
  have g1 : ¬ 9223372036854775807 < 2 + SA.size := by omega
  have g2 : ¬ 9223372036854775807 < 2 + SA.size + 3 := by omega
  have g3 : ¬ 9223372036854775807 < 2 + SA.size + 3 + SB.size := by omega
  have g4 : ¬ 9223372036854775807 < 2 + SA.size + 3 + SB.size + 2 := by omega
  clear HE1 HE3 hsa hsb
  have HRX : Hid (∀ (W : World) (gx : Nat), Hid (Below W3.heap.size W3 W) → XpB W gx ev0 → Calls Tryd.prog 11 #[.string (⟨#[112, 32]⟩ ++ SA ++ ⟨#[32, 113, 32]⟩ ++ SB ++ ⟨#[32, 114]⟩)] W fun e w' => ∃ v : EV, e = .returned (.tuple #[.agg #[.int .i64 v.kind, .int .i64 v.num, .string v.name, .int .i64 v.op, .slice v.A v.len v.cap, .int .i64 v.p], .agg #[.int .i64 0, .int .i64 0]]) ∧
      w'.cell? ⟨gA, i, none⟩ = some (.string SA) ∧ w'.cell? ⟨gA, k, none⟩ = some (.string SB) ∧ Hid (Below W3.heap.size W3 w') ∧ W3.heap.size ≤ w'.heap.size ∧ Hid (Below W.heap.size W w') ∧ Hid (GV w' W.heap.size w'.heap.size y.gx v) ∧ Hid (XpB w' gx ev0) ∧ (¬ w'.heap.size = gx ∧ ¬ gx = w'.heap.size) ∧ w'.cell? ⟨gx, 0, none⟩ = some (.int .i64 0) ∧ w'.cell? ⟨gx, 1, none⟩ = some (.int .i64 0) ∧ w'.cell? ⟨gx, 2, none⟩ = some (.string ⟨#[]⟩) ∧ w'.cell? ⟨gx, 3, none⟩ = some (.int .i64 0) ∧ w'.cell? ⟨gx, 4, none⟩ = some (.slice none 0 0) ∧ w'.cell? ⟨gx, 5, none⟩ = some (.int .i64 0) ∧ w'.frozen? ⟨gx, 0, none⟩ = false ∧ w'.frozen? ⟨gx, 1, none⟩ = false ∧ w'.frozen? ⟨gx, 2, none⟩ = false ∧ w'.frozen? ⟨gx, 3, none⟩ = false ∧ w'.frozen? ⟨gx, 4, none⟩ = false ∧ w'.frozen? ⟨gx, 5, none⟩ = false ∧ (∀ ob : Obj, (w'.alloc ob).cell? ⟨gx, 0, none⟩ = some (.int .i64 0)) ∧ (∀ ob : Obj, (w'.alloc ob).cell? ⟨gx, 1, none⟩ = some (.int .i64 0)) ∧ (∀ ob : Obj, (w'.alloc ob).cell? ⟨gx, 2, none⟩ = some (.string ⟨#[]⟩)) ∧ (∀ ob : Obj, (w'.alloc ob).cell? ⟨gx, 3, none⟩ = some (.int .i64 0)) ∧ (∀ ob : Obj, (w'.alloc ob).cell? ⟨gx, 4, none⟩ = some (.slice none 0 0)) ∧ (∀ ob : Obj, (w'.alloc ob).cell? ⟨gx, 5, none⟩ = some (.int .i64 0)) ∧ (∀ ob : Obj, (w'.alloc ob).frozen? ⟨gx, 0, none⟩ = false) ∧ (∀ ob : Obj, (w'.alloc ob).frozen? ⟨gx, 1, none⟩ = false) ∧ (∀ ob : Obj, (w'.alloc ob).frozen? ⟨gx, 2, none⟩ = false) ∧ (∀ ob : Obj, (w'.alloc ob).frozen? ⟨gx, 3, none⟩ = false) ∧ (∀ ob : Obj, (w'.alloc ob).frozen? ⟨gx, 4, none⟩ = false) ∧ (∀ ob : Obj, (w'.alloc ob).frozen? ⟨gx, 5, none⟩ = false)) := fun W gx h hx => by
    refine (HRD.out W h).mono ?_
    rintro e w' ⟨v, rfl, x1, x2, x3, x4, x5, x6⟩
    exact ⟨v, rfl, x1, x2, x3, x4, x5, x6, keep_x x5 hx⟩
  have HRF : Hid (∀ (W : World) (gf : Nat), Hid (Below W3.heap.size W3 W) → FtB W gf (.int .i64 0) (.int .i64 0) → Calls Tryd.prog 11 #[.string (⟨#[112, 32]⟩ ++ SA ++ ⟨#[32, 113, 32]⟩ ++ SB ++ ⟨#[32, 114]⟩)] W fun e w' => ∃ v : EV, e = .returned (.tuple #[.agg #[.int .i64 v.kind, .int .i64 v.num, .string v.name, .int .i64 v.op, .slice v.A v.len v.cap, .int .i64 v.p], .agg #[.int .i64 0, .int .i64 0]]) ∧
      w'.cell? ⟨gA, i, none⟩ = some (.string SA) ∧ w'.cell? ⟨gA, k, none⟩ = some (.string SB) ∧ Hid (Below W3.heap.size W3 w') ∧ W3.heap.size ≤ w'.heap.size ∧ Hid (Below W.heap.size W w') ∧ Hid (GV w' W.heap.size w'.heap.size y.gx v) ∧ Hid (FtB w' gf (.int .i64 0) (.int .i64 0)) ∧ (¬ w'.heap.size = gf ∧ ¬ gf = w'.heap.size) ∧ w'.cell? ⟨gf, 0, none⟩ = some (.int .i64 0) ∧ w'.cell? ⟨gf, 1, none⟩ = some (.int .i64 0) ∧ w'.frozen? ⟨gf, 0, none⟩ = false ∧ w'.frozen? ⟨gf, 1, none⟩ = false ∧ (∀ ob : Obj, (w'.alloc ob).cell? ⟨gf, 0, none⟩ = some (.int .i64 0)) ∧ (∀ ob : Obj, (w'.alloc ob).cell? ⟨gf, 1, none⟩ = some (.int .i64 0)) ∧ (∀ ob : Obj, (w'.alloc ob).frozen? ⟨gf, 0, none⟩ = false) ∧ (∀ ob : Obj, (w'.alloc ob).frozen? ⟨gf, 1, none⟩ = false)) := fun W gx h hx => by
    refine (HRD.out W h).mono ?_
    rintro e w' ⟨v, rfl, x1, x2, x3, x4, x5, x6⟩
    exact ⟨v, rfl, x1, x2, x3, x4, x5, x6, keep_f x5 hx⟩
  have HRXF : Hid (∀ (W : World) (gx gf : Nat), Hid (Below W3.heap.size W3 W) → XpB W gx ev0 → FtB W gf (.int .i64 0) (.int .i64 0) → Calls Tryd.prog 11 #[.string (⟨#[112, 32]⟩ ++ SA ++ ⟨#[32, 113, 32]⟩ ++ SB ++ ⟨#[32, 114]⟩)] W fun e w' => ∃ v : EV, e = .returned (.tuple #[.agg #[.int .i64 v.kind, .int .i64 v.num, .string v.name, .int .i64 v.op, .slice v.A v.len v.cap, .int .i64 v.p], .agg #[.int .i64 0, .int .i64 0]]) ∧
      w'.cell? ⟨gA, i, none⟩ = some (.string SA) ∧ w'.cell? ⟨gA, k, none⟩ = some (.string SB) ∧ Hid (Below W3.heap.size W3 w') ∧ W3.heap.size ≤ w'.heap.size ∧ Hid (Below W.heap.size W w') ∧ Hid (GV w' W.heap.size w'.heap.size y.gx v) ∧ (Hid (XpB w' gx ev0) ∧ (¬ w'.heap.size = gx ∧ ¬ gx = w'.heap.size) ∧ w'.cell? ⟨gx, 0, none⟩ = some (.int .i64 0) ∧ w'.cell? ⟨gx, 1, none⟩ = some (.int .i64 0) ∧ w'.cell? ⟨gx, 2, none⟩ = some (.string ⟨#[]⟩) ∧ w'.cell? ⟨gx, 3, none⟩ = some (.int .i64 0) ∧ w'.cell? ⟨gx, 4, none⟩ = some (.slice none 0 0) ∧ w'.cell? ⟨gx, 5, none⟩ = some (.int .i64 0) ∧ w'.frozen? ⟨gx, 0, none⟩ = false ∧ w'.frozen? ⟨gx, 1, none⟩ = false ∧ w'.frozen? ⟨gx, 2, none⟩ = false ∧ w'.frozen? ⟨gx, 3, none⟩ = false ∧ w'.frozen? ⟨gx, 4, none⟩ = false ∧ w'.frozen? ⟨gx, 5, none⟩ = false ∧ (∀ ob : Obj, (w'.alloc ob).cell? ⟨gx, 0, none⟩ = some (.int .i64 0)) ∧ (∀ ob : Obj, (w'.alloc ob).cell? ⟨gx, 1, none⟩ = some (.int .i64 0)) ∧ (∀ ob : Obj, (w'.alloc ob).cell? ⟨gx, 2, none⟩ = some (.string ⟨#[]⟩)) ∧ (∀ ob : Obj, (w'.alloc ob).cell? ⟨gx, 3, none⟩ = some (.int .i64 0)) ∧ (∀ ob : Obj, (w'.alloc ob).cell? ⟨gx, 4, none⟩ = some (.slice none 0 0)) ∧ (∀ ob : Obj, (w'.alloc ob).cell? ⟨gx, 5, none⟩ = some (.int .i64 0)) ∧ (∀ ob : Obj, (w'.alloc ob).frozen? ⟨gx, 0, none⟩ = false) ∧ (∀ ob : Obj, (w'.alloc ob).frozen? ⟨gx, 1, none⟩ = false) ∧ (∀ ob : Obj, (w'.alloc ob).frozen? ⟨gx, 2, none⟩ = false) ∧ (∀ ob : Obj, (w'.alloc ob).frozen? ⟨gx, 3, none⟩ = false) ∧ (∀ ob : Obj, (w'.alloc ob).frozen? ⟨gx, 4, none⟩ = false) ∧ (∀ ob : Obj, (w'.alloc ob).frozen? ⟨gx, 5, none⟩ = false)) ∧ Hid (FtB w' gf (.int .i64 0) (.int .i64 0)) ∧ (¬ w'.heap.size = gf ∧ ¬ gf = w'.heap.size) ∧ w'.cell? ⟨gf, 0, none⟩ = some (.int .i64 0) ∧ w'.cell? ⟨gf, 1, none⟩ = some (.int .i64 0) ∧ w'.frozen? ⟨gf, 0, none⟩ = false ∧ w'.frozen? ⟨gf, 1, none⟩ = false ∧ (∀ ob : Obj, (w'.alloc ob).cell? ⟨gf, 0, none⟩ = some (.int .i64 0)) ∧ (∀ ob : Obj, (w'.alloc ob).cell? ⟨gf, 1, none⟩ = some (.int .i64 0)) ∧ (∀ ob : Obj, (w'.alloc ob).frozen? ⟨gf, 0, none⟩ = false) ∧ (∀ ob : Obj, (w'.alloc ob).frozen? ⟨gf, 1, none⟩ = false)) := fun W gx gf h hx hf => by
    refine (HRD.out W h).mono ?_
    rintro e w' ⟨v, rfl, x1, x2, x3, x4, x5, x6⟩
    exact ⟨v, rfl, x1, x2, x3, x4, x5, x6, keep_x x5 hx, keep_f x5 hf⟩
  go_region_held3 (fun W => W.cell? ⟨gA, i, none⟩ = some (.string SA) ∧ W.cell? ⟨gA, k, none⟩ = some (.string SB) ∧ Hid (Below W3.heap.size W3 W)) ((refine HLS.out _ ?_; repeat (first | with_reducible exact x3 | with_reducible exact HBD | with_reducible exact HB00 | with_reducible refine bel_drew ?_ | with_reducible refine bel_alloc ?_ _ | with_reducible refine bel_set ?_ ?_ | exact Nat.le_refl _ | exact x4 | exact Nat.le_succ _ | exact Nat.le_succ_of_le x4))) (first | (go_at_call 11; refine (HRD.out W3.drew HBD).mono ?_; rintro e w5 ⟨v, rfl, x1, x2, x3, x4, x5, x6⟩) | (go_at_call 11; refine (HRX.out _ W3.heap.size (bel_drew (bel_alloc HB00 _)) (x_new W3).drewn).mono ?_; rintro e w5 ⟨v, rfl, x1, x2, x3, x4, x5, x6, HXB, ⟨n1, n2⟩, b0, b1, b2, b3, b4, b5, c0, c1, c2, c3, c4, c5, p0, p1, p2, p3, p4, p5, q0, q1, q2, q3, q4, q5⟩) | (go_at_call 11; refine (HRF.out _ W3.heap.size (bel_drew (bel_alloc HB00 _)) (f_new W3).drewn).mono ?_; rintro e w5 ⟨v, rfl, x1, x2, x3, x4, x5, x6, HFB, ⟨n3, n4⟩, d0, d1, d2, d3, r0, r1, r2, r3⟩) | (go_at_call 11; refine (HRXF.out _ W3.heap.size (W3.heap.size + 1) (bel_drew (bel_alloc (bel_alloc HB00 _) _)) ((x_new W3).alloc _).drewn (f_new2 W3 _).drewn).mono ?_; rintro e w5 ⟨v, rfl, x1, x2, x3, x4, x5, x6, ⟨HXB, ⟨n1, n2⟩, b0, b1, b2, b3, b4, b5, c0, c1, c2, c3, c4, c5, p0, p1, p2, p3, p4, p5, q0, q1, q2, q3, q4, q5⟩, HFB, ⟨n3, n4⟩, d0, d1, d2, d3, r0, r1, r2, r3⟩) | (go_at_call 11; refine (HRXF.out _ (W3.heap.size + 1) W3.heap.size (bel_drew (bel_alloc (bel_alloc HB00 _) _)) (x_new2 W3 _).drewn ((f_new W3).alloc _).drewn).mono ?_; rintro e w5 ⟨v, rfl, x1, x2, x3, x4, x5, x6, ⟨HXB, ⟨n1, n2⟩, b0, b1, b2, b3, b4, b5, c0, c1, c2, c3, c4, c5, p0, p1, p2, p3, p4, p5, q0, q1, q2, q3, q4, q5⟩, HFB, ⟨n3, n4⟩, d0, d1, d2, d3, r0, r1, r2, r3⟩))
  all_goals
    first
    | (obtain ⟨W9, hW9, HX9, HF9, HG9, HB9⟩ := fin1 x3 x6; rw [← hW9]; clear hW9)
    | (obtain ⟨W9, hW9, HX9, HF9, HG9, HB9⟩ := fin2 x3 x6; rw [← hW9]; clear hW9)
    | (obtain ⟨W9, hW9, HX9, HF9, HG9, HB9⟩ := fin3 HXB x3 x6 (lt1 W3 _) (Nat.le_refl _); unfold res2 two six at hW9; rw [← hW9]; clear hW9 HXB n1 n2 b0 b1 b2 b3 b4 b5 c0 c1 c2 c3 c4 c5 p0 p1 p2 p3 p4 p5 q0 q1 q2 q3 q4 q5)
    | (obtain ⟨W9, hW9, HX9, HF9, HG9, HB9⟩ := fin4 HXB HFB (Nat.ne_of_lt (Nat.lt_succ_self _)) x3 x6 (lt2 W3 _ _) (lt3 W3 _ _) (Nat.le_refl _) (Nat.le_succ _); unfold res2 two six at hW9; rw [← hW9]; clear hW9 HXB n1 n2 b0 b1 b2 b3 b4 b5 c0 c1 c2 c3 c4 c5 p0 p1 p2 p3 p4 p5 q0 q1 q2 q3 q4 q5 HFB n3 n4 d0 d1 d2 d3 r0 r1 r2 r3)
    | (obtain ⟨W9, hW9, HX9, HF9, HG9, HB9⟩ := fin4 HXB HFB (Nat.ne_of_gt (Nat.lt_succ_self _)) x3 x6 (lt3 W3 _ _) (lt2 W3 _ _) (Nat.le_succ _) (Nat.le_refl _); unfold res2 two six at hW9; rw [← hW9]; clear hW9 HXB n1 n2 b0 b1 b2 b3 b4 b5 c0 c1 c2 c3 c4 c5 p0 p1 p2 p3 p4 p5 q0 q1 q2 q3 q4 q5 HFB n3 n4 d0 d1 d2 d3 r0 r1 r2 r3)
    | (obtain ⟨W9, hW9, HX9, HF9, HG9, HB9⟩ := fin5 HFB x3 x6 (lt1 W3 _) (Nat.le_refl _); unfold two at hW9; rw [← hW9]; clear hW9 HFB n3 n4 d0 d1 d2 d3 r0 r1 r2 r3)
  all_goals
    obtain ⟨go, o, cp, ra, rb, ka, kb, z4, hcap, k0, t0, t1, r1, r2, hkd⟩ := left_facts HX9 HF9 HG9 HB9 HYY HBR HOA HOB HKD
    have HBW := Lib.hid (HB3.out.trans (HB9.out.mono HB3.out.size))
    clear HG9 HX9 HF9 HB9 HKD x1 x2 x3 x4 x5 x6 u1 u2 g1 g2 g3 g4 w1' w2' hd0 HB00 HBD hsl HRX HRF HRXF HRD HLS HU HYY HBR HOA HOB HSA HSB
    rcases hkd with ⟨hc, rfl, rfl⟩ | ⟨hc, rfl, rfl⟩
    · have hc' : (rb : Int) ≤ ra := Int.ofNat_le.2 hc
      have hd : decide (rb ≤ ra) = true := decide_eq_true hc
      go_upto_region 11 with fail
      go_quiet (fail)
      go_wp2_with fail
      go_ret
      exact ⟨rfl, HBW.out.trans ((drewN_below W9 _).mono HBW.out.size)⟩
    · have hc' : ¬ (rb : Int) ≤ ra := fun h => hc (Int.ofNat_le.1 h)
      have hd : decide (rb ≤ ra) = false := decide_eq_false hc
      go_upto_region 11 with fail
      go_quiet (fail)
      go_wp2_with fail
      go_ret
      exact ⟨rfl, HBW.out.trans ((drewN_below W9 _).mono HBW.out.size)⟩

end Go.Proofs.YtlfmciocoijnbaaDoor
