/-
  The law EvalReckons: its walk.
-/
import Derived.Test.YthgodhojhajahaaDoorVaU
import Derived.Test.YthgodhojhajahaaDoorEpLaid
namespace Go.Proofs.YthgodhojhajahaaDoor
open Go.RowKit

theorem reck_both (op a b : Int) (e : EnvP) (hn : lookP [118] e.names e.nums = (b, 0)) : evP e (.mk 5 0 [] op [.mk 1 a [] 0 [] 0, .mk 2 0 [118] 0 [] 0] 0) = (doN op a b, doE op b) := by
  have h1 : evP e (.mk 1 a [] 0 [] 0) = (a, 0) := by rw [evP_mk, evsP_nil]; rfl
  have h2 : evP e (.mk 2 0 [118] 0 [] 0) = (b, 0) := by rw [evP_mk, evsP_nil]; exact hn
  rw [evP_mk, evsP_two, h1, h2]
  show bothP op (a, 0) (b, 0) = _
  unfold bothP
  rw [if_pos rfl]
  by_cases c1 : op = 12 ∧ a = 0
  · rw [if_pos c1]
    obtain ⟨rfl, rfl⟩ := c1
    unfold doN doE truI
    simp
  · rw [if_neg c1]
    by_cases c2 : op = 13 ∧ a ≠ 0
    · rw [if_pos c2]
      obtain ⟨rfl, h⟩ := c2
      unfold doN doE truI
      simp [h]
    · rw [if_neg c2, if_pos rfl]

theorem reck_one (op a : Int) (e : EnvP) : evP e (.mk 4 0 [] op [.mk 1 a [] 0 [] 0] 0) = (oneN op a, oneE op) := by
  have h1 : evP e (.mk 1 a [] 0 [] 0) = (a, 0) := by rw [evP_mk, evsP_nil]; rfl
  rw [evP_mk, evsP_one, h1]
  rfl

/-- A tree of two numbers. -/
theorem two_nums (w : World) (op a : Int) : ∃ (W : World) (g0 g : Nat), W = (w.alloc (.cells #[.int .i64 1, .int .i64 a, .string ⟨#[]⟩, .int .i64 0, .slice none 0 0, .int .i64 0, .int .i64 2, .int .i64 0, .string ⟨#[118]⟩, .int .i64 0, .slice none 0 0, .int .i64 0] 25)).alloc
      (.cells #[.int .i64 5, .int .i64 0, .string ⟨#[]⟩, .int .i64 op, .slice (some ⟨g0, 0, none⟩) 2 2, .int .i64 0] 25) ∧ g0 = w.heap.size ∧ g = w.heap.size + 1 ∧
    Hid (XpB W g ⟨5, 0, ⟨#[]⟩, op, some ⟨g0, 0, none⟩, 2, 2, 0⟩) ∧ Hid (GV W 0 W.heap.size (.mk 5 0 [] op [.mk 1 a [] 0 [] 0, .mk 2 0 [118] 0 [] 0] 0) ⟨5, 0, ⟨#[]⟩, op, some ⟨g0, 0, none⟩, 2, 2, 0⟩) ∧ Hid (Below w.heap.size w W) := by
  obtain ⟨o1, ho1⟩ : ∃ o : Obj, o = .cells #[.int .i64 1, .int .i64 a, .string ⟨#[]⟩, .int .i64 0, .slice none 0 0, .int .i64 0, .int .i64 2, .int .i64 0, .string ⟨#[118]⟩, .int .i64 0, .slice none 0 0, .int .i64 0] 25 (0, 0) := ⟨_, rfl⟩
  have h1 : (w.alloc o1).heap.size = w.heap.size + 1 := by simp
  have a1 := heap_alloc_new w o1
  have hx := XpB.new (w.alloc o1) ⟨5, 0, ⟨#[]⟩, op, some ⟨w.heap.size, 0, none⟩, 2, 2, 0⟩
  have a3 := (Below.heap_alloc (w.alloc o1) (.cells #[.int .i64 5, .int .i64 0, .string ⟨#[]⟩, .int .i64 op, .slice (some ⟨w.heap.size, 0, none⟩) 2 2, .int .i64 0] 25) w.heap.size (by rw [h1]; omega)).trans a1
  obtain ⟨W, hW⟩ : ∃ W, W = (w.alloc o1).alloc (.cells #[.int .i64 5, .int .i64 0, .string ⟨#[]⟩, .int .i64 op, .slice (some ⟨w.heap.size, 0, none⟩) 2 2, .int .i64 0] 25) := ⟨_, rfl⟩
  rw [h1] at hx
  simp only at hx
  rw [← hW] at hx a3
  rw [ho1] at a3
  have hlt : w.heap.size < W.heap.size := (Array.getElem?_eq_some_iff.1 a3).1
  have hc : ∀ (i : Nat) (v : Value), (#[.int .i64 1, .int .i64 a, .string ⟨#[]⟩, .int .i64 0, .slice none 0 0, .int .i64 0, .int .i64 2, .int .i64 0, .string ⟨#[118]⟩, .int .i64 0, .slice none 0 0, .int .i64 0] : Array Value)[i]? = some v → W.cell? ⟨w.heap.size, i, none⟩ = some v := fun i v h => by
    rw [cell_of_row _ _ _ _ _ _ a3]
    exact h
  refine ⟨W, w.heap.size, w.heap.size + 1, by rw [hW, ho1], rfl, rfl, hx, ?_, ?_⟩
  · show GV _ _ _ _ _
    unfold GV
    refine ⟨rfl, rfl, rfl, rfl, rfl, rfl, Nat.le_refl _, le_max2, ?_⟩
    unfold GRow
    refine ⟨⟨w.heap.size, 0, ⟨1, a, ⟨#[]⟩, 0, none, 0, 0, 0⟩, rfl, Nat.zero_le _, hlt, ⟨hc 0 _ rfl, hc 1 _ rfl, hc 2 _ rfl, hc 3 _ rfl, hc 4 _ rfl, hc 5 _ rfl⟩, GV.leaf W 0 _ 1 a 0 0 ⟨#[]⟩⟩, ?_⟩
    unfold GRow
    refine ⟨⟨w.heap.size, 0, ⟨2, 0, ⟨#[118]⟩, 0, none, 0, 0, 0⟩, rfl, Nat.zero_le _, hlt, ⟨hc 6 _ rfl, hc 7 _ rfl, hc 8 _ rfl, hc 9 _ rfl, hc 10 _ rfl, hc 11 _ rfl⟩, GV.leaf W 0 _ 2 0 0 0 ⟨#[118]⟩⟩, ?_⟩
    unfold GRow
    trivial
  · rw [hW]
    exact ((Below.refl _ w).alloc (Nat.le_refl _) _).alloc (by rw [h1]; omega) _

/-- A tree of one number. -/
theorem one_num (w : World) (op a : Int) : ∃ (W : World) (g0 g : Nat), W = (w.alloc (.cells #[.int .i64 1, .int .i64 a, .string ⟨#[]⟩, .int .i64 0, .slice none 0 0, .int .i64 0] 25)).alloc
      (.cells #[.int .i64 4, .int .i64 0, .string ⟨#[]⟩, .int .i64 op, .slice (some ⟨g0, 0, none⟩) 1 1, .int .i64 0] 25) ∧ g0 = w.heap.size ∧ g = w.heap.size + 1 ∧
    Hid (XpB W g ⟨4, 0, ⟨#[]⟩, op, some ⟨g0, 0, none⟩, 1, 1, 0⟩) ∧ Hid (GV W 0 W.heap.size (.mk 4 0 [] op [.mk 1 a [] 0 [] 0] 0) ⟨4, 0, ⟨#[]⟩, op, some ⟨g0, 0, none⟩, 1, 1, 0⟩) ∧ Hid (Below w.heap.size w W) := by
  obtain ⟨o1, ho1⟩ : ∃ o : Obj, o = .cells #[.int .i64 1, .int .i64 a, .string ⟨#[]⟩, .int .i64 0, .slice none 0 0, .int .i64 0] 25 (0, 0) := ⟨_, rfl⟩
  have h1 : (w.alloc o1).heap.size = w.heap.size + 1 := by simp
  have a1 := heap_alloc_new w o1
  have hx := XpB.new (w.alloc o1) ⟨4, 0, ⟨#[]⟩, op, some ⟨w.heap.size, 0, none⟩, 1, 1, 0⟩
  have a3 := (Below.heap_alloc (w.alloc o1) (.cells #[.int .i64 4, .int .i64 0, .string ⟨#[]⟩, .int .i64 op, .slice (some ⟨w.heap.size, 0, none⟩) 1 1, .int .i64 0] 25) w.heap.size (by rw [h1]; omega)).trans a1
  obtain ⟨W, hW⟩ : ∃ W, W = (w.alloc o1).alloc (.cells #[.int .i64 4, .int .i64 0, .string ⟨#[]⟩, .int .i64 op, .slice (some ⟨w.heap.size, 0, none⟩) 1 1, .int .i64 0] 25) := ⟨_, rfl⟩
  rw [h1] at hx
  simp only at hx
  rw [← hW] at hx a3
  rw [ho1] at a3
  have hlt : w.heap.size < W.heap.size := (Array.getElem?_eq_some_iff.1 a3).1
  have hc : ∀ (i : Nat) (v : Value), (#[.int .i64 1, .int .i64 a, .string ⟨#[]⟩, .int .i64 0, .slice none 0 0, .int .i64 0] : Array Value)[i]? = some v → W.cell? ⟨w.heap.size, i, none⟩ = some v := fun i v h => by
    rw [cell_of_row _ _ _ _ _ _ a3]
    exact h
  refine ⟨W, w.heap.size, w.heap.size + 1, by rw [hW, ho1], rfl, rfl, hx, ?_, ?_⟩
  · show GV _ _ _ _ _
    unfold GV
    refine ⟨rfl, rfl, rfl, rfl, rfl, rfl, Nat.le_refl _, le_max1, ?_⟩
    unfold GRow
    refine ⟨⟨w.heap.size, 0, ⟨1, a, ⟨#[]⟩, 0, none, 0, 0, 0⟩, rfl, Nat.zero_le _, hlt, ⟨hc 0 _ rfl, hc 1 _ rfl, hc 2 _ rfl, hc 3 _ rfl, hc 4 _ rfl, hc 5 _ rfl⟩, GV.leaf W 0 _ 1 a 0 0 ⟨#[]⟩⟩, ?_⟩
    unfold GRow
    trivial
  · rw [hW]
    exact ((Below.refl _ w).alloc (Nat.le_refl _) _).alloc (by rw [h1]; omega) _

/-- An environment of one variable. -/
theorem env_one (w : World) (b : Int) : ∃ W : World, W = (w.alloc (.cells #[.string ⟨#[118]⟩] 9)).alloc (.cells #[.int .i64 b] 3) ∧
    NvIs W ⟨some ⟨w.heap.size, 0, none⟩, 1, 1, some ⟨w.heap.size + 1, 0, none⟩, 1, 1, none, 0, 0⟩ [⟨#[118]⟩] [] [b] ∧ Below w.heap.size w W := by
  have h1 : (w.alloc (.cells #[.string ⟨#[118]⟩] 9)).heap.size = w.heap.size + 1 := by simp
  have a1 := heap_alloc_new w (.cells #[.string ⟨#[118]⟩] 9)
  have a2 := heap_alloc_new (w.alloc (.cells #[.string ⟨#[118]⟩] 9)) (.cells #[.int .i64 b] 3)
  rw [h1] at a2
  have a3 := (Below.heap_alloc (w.alloc (.cells #[.string ⟨#[118]⟩] 9)) (.cells #[.int .i64 b] 3) w.heap.size (by rw [h1]; omega)).trans a1
  refine ⟨_, rfl, ⟨rfl, rfl, rfl, ⟨Nat.le_refl _, le_max1⟩, ⟨Nat.le_refl _, le_max1⟩, ⟨Nat.le_refl _, Nat.zero_le _⟩, strAt_row a3 ?_, intAt_row a2 ?_, strAt_nil _ _⟩, ((Below.refl _ w).alloc (Nat.le_refl _) _).alloc (by rw [h1]; omega) _⟩
  · intro i s hs
    match i, hs with
    | 0, hs => injection hs with hs; rw [← hs]; rfl
  · intro i s hs
    match i, hs with
    | 0, hs => injection hs with hs; rw [← hs]; rfl

set_option maxHeartbeats 1600000 in
set_option maxRecDepth 20000 in
theorem reckons_law (op a b : Int) (w : World) (_h0 : (Lit.int .i64 op).wf = true) (_h1 : (Lit.int .i64 a).wf = true) (_h2 : (Lit.int .i64 b).wf = true) (hK : KwAt w) (hEr : ErrAt w) (hSg : SgAt w) :
    Calls Tryd.prog 3 #[.int .i64 op, .int .i64 a, .int .i64 b] w fun e w' => e = .returned (.bool true) ∧ Below w.heap.size w w' := by
  have HEE : Hid (E6 w) := ⟨⟨hK, hEr⟩, ⟨hK, hSg⟩⟩
  have HS := Lib.hid (small6_any w HEE.out)
  clear hK hEr hSg _h0 _h1 _h2
  go_enter Tryd.func3, Tryd.ntmps3
  go_wp2_with fail
  refine HS.out.mono ?_
  rintro e w1 ⟨rfl, hb⟩
  have HB1 := Lib.hid hb
  clear hb HS
  obtain ⟨W2, g0, g1, hW2, hg0, hg1, HX, HG, HB⟩ := two_nums w1 op a
  have HB2 := Lib.hid (HB1.out.trans (HB.out.mono HB1.out.size))
  obtain ⟨W3, hW3, hN3, hb3⟩ := env_one W2 b
  have HC : Hid (Calls Tryd.prog 5 #[.agg #[.int .i64 5, .int .i64 0, .string ⟨#[]⟩, .int .i64 op, .slice (some ⟨g0, 0, none⟩) 2 2, .int .i64 0], .agg #[.slice (some ⟨W2.heap.size, 0, none⟩) 1 1, .slice (some ⟨W2.heap.size + 1, 0, none⟩) 1 1, .slice none 0 0]] W3 fun r w' => r = .returned (.tuple #[.int .i64 (doN op a b), .int .i64 (doE op b)]) ∧ Below W2.heap.size W2 w') := by
    have h := eval_any _ W3 _ _ _ _ _ hN3 ((GV.below HG.out hb3 (Nat.le_refl _)).mono (Nat.le_refl _) hb3.size)
    rw [reck_both op a b _ rfl] at h
    exact h.mono fun r w' ⟨h1, h2⟩ => ⟨h1, hb3.trans (h2.mono hb3.size)⟩
  rw [hW3] at HC
  clear hW3 hN3 hb3 HG HB
  have z0 := HX.out.c0
  have z1 := HX.out.c1
  have z2 := HX.out.c2
  have z3 := HX.out.c3
  have z4 := HX.out.c4
  have z5 := HX.out.c5
  simp only at z0 z1 z2 z3 z4 z5
  go_upto_region 3 with fail
  rw [hg0] at hW2
  rw [← hW2, ← hg1]
  clear hW2 hg1 hg0
  go_wp2_with fail
  refine HC.out.mono ?_
  rintro e w3 ⟨rfl, hb⟩
  have HB3 := Lib.hid (HB2.out.trans (hb.mono HB2.out.size))
  clear hb HC HX HB2 z0 z1 z2 z3 z4 z5
  have HD := Lib.hid (do_any op a b w3)
  obtain ⟨N, hN⟩ : ∃ N, doN op a b = N := ⟨_, rfl⟩
  obtain ⟨E, hE⟩ : ∃ E, doE op b = E := ⟨_, rfl⟩
  rw [hN, hE] at HD ⊢
  clear hN hE
  go_wp2_with fail
  refine HD.out.mono ?_
  rintro e w' ⟨rfl, rfl⟩
  obtain ⟨W4, g0, g1, hW4, hg0, hg1, HX, HG, HB⟩ := one_num w3 op a
  have HB4 := Lib.hid (HB3.out.trans (HB.out.mono HB3.out.size))
  have HC : Hid (Calls Tryd.prog 5 #[.agg #[.int .i64 4, .int .i64 0, .string ⟨#[]⟩, .int .i64 op, .slice (some ⟨g0, 0, none⟩) 1 1, .int .i64 0], .agg #[.slice none 0 0, .slice none 0 0, .slice none 0 0]] W4 fun r w' => r = .returned (.tuple #[.int .i64 (oneN op a), .int .i64 (oneE op)]) ∧ Below W4.heap.size W4 w') := by
    have h := eval_any _ W4 _ ⟨none, 0, 0, none, 0, 0, none, 0, 0⟩ [] [] [] ⟨rfl, rfl, rfl, ⟨Nat.le_refl _, Nat.zero_le _⟩, ⟨Nat.le_refl _, Nat.zero_le _⟩, ⟨Nat.le_refl _, Nat.zero_le _⟩, strAt_nil _ _, intAt_nil _ _, strAt_nil _ _⟩ HG.out
    rw [reck_one op a] at h
    exact h
  clear HG HB HB3 HD
  have z0 := HX.out.c0
  have z1 := HX.out.c1
  have z2 := HX.out.c2
  have z3 := HX.out.c3
  have z4 := HX.out.c4
  have z5 := HX.out.c5
  simp only at z0 z1 z2 z3 z4 z5
  go_upto_region 6 with fail
  rw [hg0] at hW4
  rw [← hW4, ← hg1]
  clear hW4 hg1 hg0
  go_wp2_with fail
  refine HC.out.mono ?_
  rintro e w5 ⟨rfl, hb⟩
  have HB5 := Lib.hid (HB4.out.trans (hb.mono HB4.out.size))
  clear hb HC HX HB4 z0 z1 z2 z3 z4 z5
  have HD := Lib.hid (one_any op a w5)
  obtain ⟨M, hM⟩ : ∃ N, oneN op a = N := ⟨_, rfl⟩
  obtain ⟨F, hF⟩ : ∃ E, oneE op = E := ⟨_, rfl⟩
  rw [hM, hF] at HD ⊢
  clear hM hF
  go_wp2_with fail
  refine HD.out.mono ?_
  rintro e w' ⟨rfl, rfl⟩
  have q1 : (N == N) = true := beq_self_eq_true _
  have q2 : (E == E) = true := beq_self_eq_true _
  have q3 : (M == M) = true := beq_self_eq_true _
  have q4 : (F == F) = true := beq_self_eq_true _
  go_wp2_with fail
  go_ret
  exact ⟨rfl, HB5.out⟩

end Go.Proofs.YthgodhojhajahaaDoor
