/-
  The writer's calls: Text, Right.
-/
import Derived.Test.YthgodhojhajahaaGreatDoorEwG
namespace Go.Proofs.YthgodhojhajahaaGreatDoor
open Go.RowKit

theorem WB.new' {w : World} {B : Nat} (hB : B ≤ w.heap.size) : WB (w.alloc (.cells #[.pointer none, .slice none 0 0, .int .i64 0, .int .i64 0] 67)) B w.heap.size [] 0 0 :=
  ⟨hB, _, _, .inl rfl, heap_alloc_new w _, World.ownsRow_nil _ _ _ _, by simp [Value.ownBlock]⟩

theorem GX.right_some {x : GX} {e : Ex} (h : x.right = some e) : x.ex = some e ∧ e.nst ≤ 20 ∧ e.tx.length ≤ 16384 := by
  unfold GX.right at h
  cases hx : x.ex with
  | none => rw [hx] at h; cases h
  | some y =>
    rw [hx] at h
    by_cases c : y.nst ≤ 20 ∧ y.tx.length ≤ 16384
    · have h' : (if y.nst ≤ 20 ∧ y.tx.length ≤ 16384 then some y else none) = some e := h
      rw [if_pos c] at h'
      injection h' with h'
      subst h'
      exact ⟨rfl, c⟩
    · have h' : (if y.nst ≤ 20 ∧ y.tx.length ≤ 16384 then some y else none) = some e := h
      rw [if_neg c] at h'
      cases h'

theorem GX.txt_some {x : GX} {e : Ex} (h : x.right = some e) : x.txt = e.tx := by unfold GX.txt; rw [h]
theorem GX.txt_none {x : GX} (h : x.right = none) : x.txt = [] := by unfold GX.txt; rw [h]

/-- A new writer is there, and the parameter's box. -/
theorem newWriter (w : World) (v : EV) : ∃ (W0 : World) (g1 b : Nat), W0 = (w.alloc (.cells #[.int .i64 v.kind, .int .i64 v.num, .string v.name, .int .i64 v.op, .slice v.A v.len v.cap, .int .i64 v.p] 24)).alloc (.cells #[.pointer none, .slice none 0 0, .int .i64 0, .int .i64 0] 67) ∧
    g1 = w.heap.size ∧ b = w.heap.size + 1 ∧ Hid (WAt w b g1 v w W0 [] 0 0) ∧ g1 ≠ b := by
  have e : (w.alloc (.cells #[.int .i64 v.kind, .int .i64 v.num, .string v.name, .int .i64 v.op, .slice v.A v.len v.cap, .int .i64 v.p] 24)).heap.size = w.heap.size + 1 := by simp
  refine ⟨_, _, _, rfl, rfl, rfl, ?_, by omega⟩
  rw [← e]
  have hb : Below w.heap.size w (w.alloc (.cells #[.int .i64 v.kind, .int .i64 v.num, .string v.name, .int .i64 v.op, .slice v.A v.len v.cap, .int .i64 v.p] 24)) := (Below.refl _ w).alloc (Nat.le_refl _) _
  exact ⟨hb.alloc hb.size _, WB.new' hb.size, (XpB.new w v).alloc _, (Wk.alloc (Nat.le_refl _) _).trans (Wk.alloc hb.size _)⟩

set_option maxHeartbeats 1600000 in
set_option maxRecDepth 20000 in
theorem etext_any (w : World) (x : GX) (v : EV) (hV : Wv w) (hr : x.rng) (hg : GV w 0 w.heap.size x v) :
    Calls Tryz.prog 17 #[v.val] w fun e w' => e = .returned (.string ⟨x.txt.toArray⟩) ∧ Below w.heap.size w w' := by
  obtain ⟨W0, g1, b, hW0, hg1, hb1, HA, hne⟩ := newWriter w v
  have HE := Lib.hid (expr_any w b hV x hr W0 v [] 0 0 hg HA.out.bl HA.out.wb (by omega) (by omega) (by decide))
  rw [show ([] : List UInt8).length = 0 from rfl, wrX_right] at HE
  have HR := Lib.hid (fun (e : Ex) (h : x.right = some e) => And.intro (GX.txt_some h) (tx_Hd e (ex_some x e (GX.right_some h).1).1))
  have HN := Lib.hid (@GX.txt_none x)
  have HNE := Lib.hid hne
  obtain ⟨T, hT⟩ : ∃ T, x.txt = T := ⟨_, rfl⟩
  rw [hT] at HR HN ⊢
  obtain ⟨k, num, S, op, A, len, cap, p⟩ := v
  simp only [EV.val] at HE ⊢
  simp only at hW0
  have z0 := HA.out.xp.c0
  have z1 := HA.out.xp.c1
  have z2 := HA.out.xp.c2
  have z3 := HA.out.xp.c3
  have z4 := HA.out.xp.c4
  have z5 := HA.out.xp.c5
  simp only at z0 z1 z2 z3 z4 z5
  clear hV hr hg hT hne
  go_enter Tryz.func17, Tryz.ntmps17
  go_upto_region 2 with fail
  rw [← hW0, ← hb1, ← hg1]
  clear hW0 hg1 hb1
  go_wp2_with fail
  refine HE.out.mono ?_
  rintro e w1 ⟨r, rfl, hq, hk⟩
  have HQ := Lib.hid hq
  have HK := Lib.hid (HA.out.wk.trans hk)
  clear hq hk HE z0 z1 z2 z3 z4 z5
  cases r
  · obtain rfl : T = [] := HN.out (by
      rcases HQ.out with ⟨_, h⟩ | ⟨h, _⟩
      · exact h
      · cases h)
    go_wp2_with fail
    go_ret
    exact ⟨rfl, HK.out.below⟩
  · obtain ⟨e, he, hwb⟩ : ∃ e, x.right = some e ∧ WB w1 w.heap.size b e.tx e.size 0 := by
      rcases HQ.out with ⟨h, _⟩ | ⟨_, e, h, hw⟩
      · cases h
      · exact ⟨e, h, by rw [List.nil_append, Nat.zero_add] at hw; exact hw⟩
    obtain ⟨h1, h2⟩ := HR.out e he
    have HS := Lib.hid (bstring_any w1 w.heap.size b e.tx e.size 0 hwb (by obtain ⟨c, r, h, _⟩ := h2; rw [h]; simp))
    rw [← h1] at HS
    clear he hwb h1 h2 HR HN HQ
    go_wp2_with fail
    refine HS.out.mono ?_
    rintro _ w2 ⟨rfl, hb⟩
    go_wp2_with fail
    go_ret
    exact ⟨rfl, HK.out.below.trans hb⟩

end Go.Proofs.YthgodhojhajahaaGreatDoor
