/-
  The small case of the laws of evaluation.
-/
import Derived.Test.YthgodhojhajahaaGreatDoorVaS
import Derived.Test.YthgodhojhajahaaGreatDoorEB
namespace Go.Proofs.YthgodhojhajahaaGreatDoor
open Go.RowKit

/-- What reading rests on. -/
structure E6 (w : World) : Prop where
  vr : Vars w
  vs : Vs w

theorem E6.below {w w' : World} (h : E6 w) (hb : Below w.heap.size w w') : E6 w' := ⟨h.vr.below hb, h.vs.below hb⟩

/-- What is read is laid into two variables. -/
theorem pair_new6 (w : World) (v : EV) (c p : Int) : ∃ (W : World) (g1 g2 : Nat), W = (w.alloc (.cells #[.int .i64 v.kind, .int .i64 v.num, .string v.name, .int .i64 v.op, .slice v.A v.len v.cap, .int .i64 v.p] 24)).alloc (.cells #[.int .i64 c, .int .i64 p] 46) ∧
    g1 = w.heap.size ∧ g2 = w.heap.size + 1 ∧ Hid (XpB W g1 v) ∧ Hid (FtB W g2 (.int .i64 c) (.int .i64 p)) ∧ Hid (Below w.heap.size w W) := by
  have e : (w.alloc (.cells #[.int .i64 v.kind, .int .i64 v.num, .string v.name, .int .i64 v.op, .slice v.A v.len v.cap, .int .i64 v.p] 24)).heap.size = w.heap.size + 1 := by simp
  refine ⟨_, _, _, rfl, rfl, rfl, (XpB.new w v).alloc _, ?_, ((Below.refl _ w).alloc (Nat.le_refl _) _).alloc (by omega) _⟩
  rw [← e]
  exact FtB.new _ _ _

theorem strAt_row {w : World} {g : Nat} {cs : Array Value} {t : TypeId} {fr : Nat × Nat} (h : w.heap[g]? = some (.cells cs t fr)) {xs : List ByteArray} (hx : ∀ (i : Nat) (s : ByteArray), xs[i]? = some s → cs[i]? = some (Value.string s)) : StrAt w (some ⟨g, 0, none⟩) xs := fun i s hs => by
  refine ⟨g, 0, rfl, (Array.getElem?_eq_some_iff.1 h).1, ?_⟩
  rw [Nat.zero_add, cell_of_row _ _ _ _ _ _ h]
  exact hx i s hs
theorem intAt_row {w : World} {g : Nat} {cs : Array Value} {t : TypeId} {fr : Nat × Nat} (h : w.heap[g]? = some (.cells cs t fr)) {xs : List Int} (hx : ∀ (i : Nat) (s : Int), xs[i]? = some s → cs[i]? = some (Value.int .i64 s)) : IntAt w (some ⟨g, 0, none⟩) xs := fun i s hs => by
  refine ⟨g, 0, rfl, (Array.getElem?_eq_some_iff.1 h).1, ?_⟩
  rw [Nat.zero_add, cell_of_row _ _ _ _ _ _ h]
  exact hx i s hs
theorem strAt_nil (w : World) (A : Option Addr) : StrAt w A [] := fun i s hs => by simp at hs
theorem intAt_nil (w : World) (A : Option Addr) : IntAt w A [] := fun i s hs => by simp at hs

theorem le_max2 : 2 ≤ maxLen := by unfold maxLen; omega
theorem le_max1 : 1 ≤ maxLen := by unfold maxLen; omega

/-- The small case's environment. -/
theorem env_two (w : World) (n : Int) : ∃ W : World, W = (w.alloc (.cells #[.string ⟨#[120]⟩, .string ⟨#[121]⟩] 9)).alloc (.cells #[.int .i64 7, .int .i64 n] 3) ∧
    NvIs W ⟨some ⟨w.heap.size, 0, none⟩, 2, 2, some ⟨w.heap.size + 1, 0, none⟩, 2, 2, none, 0, 0⟩ [⟨#[120]⟩, ⟨#[121]⟩] [] [7, n] ∧ Below w.heap.size w W := by
  have h1 : (w.alloc (.cells #[.string ⟨#[120]⟩, .string ⟨#[121]⟩] 9)).heap.size = w.heap.size + 1 := by simp
  have a1 := heap_alloc_new w (.cells #[.string ⟨#[120]⟩, .string ⟨#[121]⟩] 9)
  have a2 := heap_alloc_new (w.alloc (.cells #[.string ⟨#[120]⟩, .string ⟨#[121]⟩] 9)) (.cells #[.int .i64 7, .int .i64 n] 3)
  rw [h1] at a2
  have a3 := (Below.heap_alloc (w.alloc (.cells #[.string ⟨#[120]⟩, .string ⟨#[121]⟩] 9)) (.cells #[.int .i64 7, .int .i64 n] 3) w.heap.size (by rw [h1]; omega)).trans a1
  refine ⟨_, rfl, ⟨rfl, rfl, rfl, ⟨Nat.le_refl _, le_max2⟩, ⟨Nat.le_refl _, le_max2⟩, ⟨Nat.le_refl _, Nat.zero_le _⟩, strAt_row a3 ?_, intAt_row a2 ?_, strAt_nil _ _⟩, ((Below.refl _ w).alloc (Nat.le_refl _) _).alloc (by rw [h1]; omega) _⟩
  · intro i s hs
    match i, hs with
    | 0, hs => injection hs with hs; rw [← hs]; rfl
    | 1, hs => injection hs with hs; rw [← hs]; rfl
  · intro i s hs
    match i, hs with
    | 0, hs => injection hs with hs; rw [← hs]; rfl
    | 1, hs => injection hs with hs; rw [← hs]; rfl

/-- .. with a state. -/
theorem env_three (w : World) (n : Int) : ∃ W : World, W = ((w.alloc (.cells #[.string ⟨#[120]⟩, .string ⟨#[121]⟩] 9)).alloc (.cells #[.int .i64 7, .int .i64 n] 3)).alloc (.cells #[.string ⟨#[115, 49]⟩] 9) ∧
    NvIs W ⟨some ⟨w.heap.size, 0, none⟩, 2, 2, some ⟨w.heap.size + 1, 0, none⟩, 2, 2, some ⟨w.heap.size + 1 + 1, 0, none⟩, 1, 1⟩ [⟨#[120]⟩, ⟨#[121]⟩] [⟨#[115, 49]⟩] [7, n] ∧ Below w.heap.size w W := by
  obtain ⟨W, hW, hN, hB⟩ := env_two w n
  have h1 : W.heap.size = w.heap.size + 1 + 1 := by rw [hW]; simp
  have hb : Below W.heap.size W (W.alloc (.cells #[.string ⟨#[115, 49]⟩] 9)) := (Below.refl _ W).alloc (Nat.le_refl _) _
  have a1 := heap_alloc_new W (.cells #[.string ⟨#[115, 49]⟩] 9)
  have hN' := hN.below hb
  rw [h1] at a1
  refine ⟨_, rfl, ?_, ?_⟩
  · rw [← hW]
    refine ⟨hN'.nl, hN'.ml, rfl, hN'.nc, hN'.mc, ⟨Nat.le_refl _, le_max1⟩, hN'.nm, hN'.ms, strAt_row a1 ?_⟩
    intro i s hs
    match i, hs with
    | 0, hs => injection hs with hs; rw [← hs]; rfl
  · rw [← hW]
    exact hB.trans (hb.mono hB.size)

/-- The two texts' trees. -/
def sm6X : Ex := .both 12 (.var [121] 0) (.both 4 (.var [120] 5) (.var [121] 9))
def sm6Y : Ex := .both 1 (.both 4 (.var [120] 0) (.var [121] 4)) (.inn [115, 49] 8)
theorem rd_sm6X : rdR (⟨#[121, 32, 38, 38, 32, 120, 32, 47, 32, 121]⟩ : ByteArray).data.toList = (some sm6X, 0, 0) := by decide +kernel
theorem rd_sm6Y : rdR (⟨#[120, 32, 47, 32, 121, 32, 43, 32, 105, 110, 40, 115, 49, 41]⟩ : ByteArray).data.toList = (some sm6Y, 0, 0) := by decide +kernel

theorem ev_var (e : EnvP) (s : List UInt8) (p : Int) : evP e (Ex.var s p).gx = lookP s e.names e.nums := by
  show evP e (.mk 2 0 s 0 [] p) = _
  rw [evP_mk, evsP_nil]
  rfl
theorem ev_inn (e : EnvP) (s : List UInt8) (p : Int) : evP e (Ex.inn s p).gx = (if s ∈ e.act then 1 else 0, 0) := by
  show evP e (.mk 3 0 s 0 [] p) = _
  rw [evP_mk, evsP_nil]
  rfl
theorem ev_both (e : EnvP) (o : Int) (x y : Ex) : evP e (Ex.both o x y).gx = bothP o (evP e x.gx) (evP e y.gx) := by
  show evP e (.mk 5 0 [] o [x.gx, y.gx] _) = _
  rw [evP_mk, evsP_two]
  rfl

theorem sm6_1 : evP (envP [⟨#[120]⟩, ⟨#[121]⟩] [] [7, 0]) sm6X.gx = (0, 0) := by
  unfold sm6X
  rw [ev_both, ev_both, ev_var, ev_var]
  decide +kernel
theorem sm6_2 : evP (envP [⟨#[120]⟩, ⟨#[121]⟩] [] [7, 0]) sm6Y.gx = (0, 10) := by
  unfold sm6Y
  rw [ev_both, ev_both, ev_var, ev_var, ev_inn]
  decide +kernel
theorem sm6_3 : evP (envP [⟨#[120]⟩, ⟨#[121]⟩] [⟨#[115, 49]⟩] [7, 2]) sm6Y.gx = (4, 0) := by
  unfold sm6Y
  rw [ev_both, ev_both, ev_var, ev_var, ev_inn]
  decide +kernel

set_option maxHeartbeats 1600000 in
set_option maxRecDepth 20000 in
theorem small6_any (w : World) (hE : E6 w) :
    Calls Tryz.prog 7 #[] w fun e w' => e = .returned (.bool true) ∧ Below w.heap.size w w' := by
  have HEE := Lib.hid hE
  have HRD := Lib.hid (read_any w _ hE.vr hE.vs _ rd_sm6X)
  simp only [ftV] at HRD
  clear hE
  go_enter Tryz.func7, Tryz.ntmps7
  go_wp2_with fail
  refine HRD.out.mono ?_
  rintro e w1 ⟨v, rfl, hv, hb⟩
  obtain ⟨W1, g1, g2, hW1, hg1, hg2, HX, HF, HB⟩ := pair_new6 w1 v 0 0
  have HB1 := Lib.hid (hb.trans (HB.out.mono hb.size))
  have hgv : GV W1 0 W1.heap.size sm6X.gx v := (GV.below hv HB.out (Nat.le_refl _)).mono (Nat.zero_le _) HB.out.size
  obtain ⟨W2, hW2, hN2, hb2⟩ := env_two W1 0
  have HC : Hid (Calls Tryz.prog 10 #[v.val, .agg #[.slice (some ⟨W1.heap.size, 0, none⟩) 2 2, .slice (some ⟨W1.heap.size + 1, 0, none⟩) 2 2, .slice none 0 0]] W2 fun r w' => r = .returned (.tuple #[.int .i64 0, .int .i64 0]) ∧ Below W1.heap.size W1 w') := by
    have h := eval_any sm6X.gx W2 v _ _ _ _ hN2 ((GV.below hgv hb2 (Nat.le_refl _)).mono (Nat.le_refl _) hb2.size)
    rw [sm6_1] at h
    exact h.mono fun r w' ⟨h1, h2⟩ => ⟨h1, hb2.trans (h2.mono hb2.size)⟩
  rw [hW2] at HC
  clear hW2 hN2 hb2 hgv hv hb HRD HB
  obtain ⟨k, num, S, op, A, len, cap, p⟩ := v
  simp only [EV.val] at HC hW1 ⊢
  have z0 := HX.out.c0
  have z1 := HX.out.c1
  have z2 := HX.out.c2
  have z3 := HX.out.c3
  have z4 := HX.out.c4
  have z5 := HX.out.c5
  simp only at z0 z1 z2 z3 z4 z5
  go_upto_region 2 with fail
  rw [← hW1, ← hg2, ← hg1]
  clear hW1 hg1 hg2
  go_wp2_with fail
  refine HC.out.mono ?_
  rintro e w3 ⟨rfl, hb⟩
  have HB3 := Lib.hid (HB1.out.trans (hb.mono HB1.out.size))
  have HF3 := Lib.hid (HF.out.below hb)
  clear hb HC HX HF z0 z1 z2 z3 z4 z5 HB1
  have HRD := Lib.hid (read_any w3 _ (HEE.out.below HB3.out).vr (HEE.out.below HB3.out).vs _ rd_sm6Y)
  simp only [ftV] at HRD
  go_wp2_with fail
  refine HRD.out.mono ?_
  rintro e w4 ⟨v, rfl, hv, hb⟩
  obtain ⟨W5, g5, g6, hW5, hg5, hg6, HX, HF, HB⟩ := pair_new6 w4 v 0 0
  have HB45 := hb.trans (HB.out.mono hb.size)
  have HF5 := Lib.hid (HF3.out.below HB45)
  have HB5 := Lib.hid (HB3.out.trans (HB45.mono HB3.out.size))
  have hgv : GV W5 0 W5.heap.size sm6Y.gx v := (GV.below hv HB.out (Nat.le_refl _)).mono (Nat.zero_le _) HB.out.size
  have HGV := Lib.hid (fun (W : World) (h : Below W5.heap.size W5 W) => (GV.below hgv h (Nat.le_refl _)).mono (Nat.le_refl _) h.size)
  obtain ⟨W6, hW6, hN6, hb6⟩ := env_two W5 0
  have HC : Hid (Calls Tryz.prog 10 #[v.val, .agg #[.slice (some ⟨W5.heap.size, 0, none⟩) 2 2, .slice (some ⟨W5.heap.size + 1, 0, none⟩) 2 2, .slice none 0 0]] W6 fun r w' => r = .returned (.tuple #[.int .i64 0, .int .i64 10]) ∧ Below W5.heap.size W5 w') := by
    have h := eval_any sm6Y.gx W6 v _ _ _ _ hN6 (HGV.out W6 hb6)
    rw [sm6_2] at h
    exact h.mono fun r w' ⟨h1, h2⟩ => ⟨h1, hb6.trans (h2.mono hb6.size)⟩
  rw [hW6] at HC
  clear hW6 hN6 hb6 hgv hv hb HRD HB HF3 HB3 HB45
  obtain ⟨k, num, S, op, A, len, cap, p⟩ := v
  simp only [EV.val] at HC hW5 ⊢
  have z0 := HX.out.c0
  have z1 := HX.out.c1
  have z2 := HX.out.c2
  have z3 := HX.out.c3
  have z4 := HX.out.c4
  have z5 := HX.out.c5
  simp only at z0 z1 z2 z3 z4 z5
  go_upto_region 4 with fail
  rw [← hW5, ← hg6, ← hg5]
  clear hW5 hg5 hg6
  go_wp2_with fail
  refine HC.out.mono ?_
  rintro e w7 ⟨rfl, hb⟩
  have HX7 := Lib.hid (HX.out.below hb)
  have HF7 := Lib.hid (HF.out.below hb)
  have HF8 := Lib.hid (HF5.out.below hb)
  have HB7 := Lib.hid (HB5.out.trans (hb.mono HB5.out.size))
  have hgv := HGV.out w7 hb
  clear hb HC HX HF HF5 HB5 HGV z0 z1 z2 z3 z4 z5
  obtain ⟨W8, hW8, hN8, hb8⟩ := env_three w7 2
  have HC : Hid (Calls Tryz.prog 10 #[.agg #[.int .i64 k, .int .i64 num, .string S, .int .i64 op, .slice A len cap, .int .i64 p], .agg #[.slice (some ⟨w7.heap.size, 0, none⟩) 2 2, .slice (some ⟨w7.heap.size + 1, 0, none⟩) 2 2, .slice (some ⟨w7.heap.size + 1 + 1, 0, none⟩) 1 1]] W8 fun r w' => r = .returned (.tuple #[.int .i64 4, .int .i64 0]) ∧ Below w7.heap.size w7 w') := by
    have h := eval_any sm6Y.gx W8 _ _ _ _ _ hN8 ((GV.below hgv hb8 (Nat.le_refl _)).mono (Nat.le_refl _) hb8.size)
    rw [sm6_3] at h
    exact h.mono fun r w' ⟨h1, h2⟩ => ⟨h1, hb8.trans (h2.mono hb8.size)⟩
  rw [hW8] at HC
  clear hW8 hN8 hb8 hgv
  have z0 := HX7.out.c0
  have z1 := HX7.out.c1
  have z2 := HX7.out.c2
  have z3 := HX7.out.c3
  have z4 := HX7.out.c4
  have z5 := HX7.out.c5
  simp only at z0 z1 z2 z3 z4 z5
  go_wp2_with fail
  refine HC.out.mono ?_
  rintro e w9 ⟨rfl, hb⟩
  have HB9 := Lib.hid (HB7.out.trans (hb.mono HB7.out.size))
  have s0 := (HF7.out.below hb).c0
  have s1 := (HF8.out.below hb).c0
  clear hb HC HX7 HF7 HF8 HB7 z0 z1 z2 z3 z4 z5
  go_wp2_with fail
  go_ret
  exact ⟨rfl, HB9.out⟩

end Go.Proofs.YthgodhojhajahaaGreatDoor
