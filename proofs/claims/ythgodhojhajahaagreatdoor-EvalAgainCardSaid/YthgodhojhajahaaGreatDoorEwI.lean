/-
  The small case.
-/
import Derived.Test.YthgodhojhajahaaGreatDoorEwH
import Derived.Test.YthgodhojhajahaaGreatDoorEB
import Derived.Test.YthgodhojhajahaaGreatDoorXE
namespace Go.Proofs.YthgodhojhajahaaGreatDoor
open Go.RowKit

/-- What the laws of expressions rest on. -/
structure Ee (w : World) : Prop where
  vr : Vars w
  sg : SgAt w
  pw : PowTab w

theorem Ee.below {w w' : World} (h : Ee w) (hb : Below w.heap.size w w') : Ee w' := ⟨h.vr.below hb, h.sg.below hb, h.pw.below hb⟩
theorem Ee.vs {w : World} (h : Ee w) : Vs w := ⟨h.vr.kw, h.sg⟩
theorem Ee.wv {w : World} (h : Ee w) : Wv w := ⟨h.vr.kw, h.sg, h.pw⟩

theorem fine_rng : ∀ e : Ex, e.fine → e.gx.rng
  | .int n p, h => by
    show GX.rng (.mk 1 n [] 0 [] p)
    rw [GX.rng, GX.rngs]
    exact ⟨⟨by have := h.1; omega, h.2⟩, by decide, by decide, trivial⟩
  | .var s p, h => by
    show GX.rng (.mk 2 0 s 0 [] p)
    rw [GX.rng, GX.rngs]
    obtain ⟨_, _, _, _, _, h2, _⟩ := isNm_parts h
    exact ⟨by decide, by decide, by omega, trivial⟩
  | .inn s p, h => by
    show GX.rng (.mk 3 0 s 0 [] p)
    rw [GX.rng, GX.rngs]
    obtain ⟨_, _, _, _, _, h2, _⟩ := isNm_parts h
    exact ⟨by decide, by decide, by omega, trivial⟩
  | .one op x p, h => by
    show GX.rng (.mk 4 0 [] op [x.gx] p)
    rw [GX.rng, GX.rngs, GX.rngs]
    exact ⟨by decide, by rcases h.1 with h | h <;> rw [h] <;> decide, by decide, fine_rng x h.2, trivial⟩
  | .both op x y, h => by
    show GX.rng (.mk 5 0 [] op [x.gx, y.gx] x.pos)
    rw [GX.rng, GX.rngs, GX.rngs, GX.rngs]
    refine ⟨by decide, ?_, by decide, fine_rng x h.2.1, fine_rng y h.2.2, trivial⟩
    rcases row_cases h.1 with h | h | h | h | h | h | h | h | h | h | h | h | h <;> rw [h] <;> decide

/-- A right tree's text. -/
theorem gx_right {e : Ex} (h : e.fine) (hn : e.nst ≤ 20) (hl : e.tx.length ≤ 16384) : e.gx.right = some e.er := by
  unfold GX.right
  rw [gx_ex e h]
  show (if e.er.nst ≤ 20 ∧ e.er.tx.length ≤ 16384 then some e.er else none) = _
  rw [er_nst, er_tx, if_pos ⟨hn, hl⟩]
theorem gx_txt {e : Ex} (h : e.fine) (hn : e.nst ≤ 20) (hl : e.tx.length ≤ 16384) : e.gx.txt = e.tx := by
  rw [GX.txt_some (gx_right h hn hl), er_tx]

/-- What is read is laid into two variables. -/
theorem pair_new (w : World) (v : EV) (c p : Int) : ∃ (W : World) (g1 g2 : Nat), W = (w.alloc (.cells #[.int .i64 v.kind, .int .i64 v.num, .string v.name, .int .i64 v.op, .slice v.A v.len v.cap, .int .i64 v.p] 24)).alloc (.cells #[.int .i64 c, .int .i64 p] 46) ∧
    g1 = w.heap.size ∧ g2 = w.heap.size + 1 ∧ Hid (XpB W g1 v) ∧ Hid (FtB W g2 (.int .i64 c) (.int .i64 p)) ∧ Hid (Below w.heap.size w W) := by
  have e : (w.alloc (.cells #[.int .i64 v.kind, .int .i64 v.num, .string v.name, .int .i64 v.op, .slice v.A v.len v.cap, .int .i64 v.p] 24)).heap.size = w.heap.size + 1 := by simp
  refine ⟨_, _, _, rfl, rfl, rfl, (XpB.new w v).alloc _, ?_, ((Below.refl _ w).alloc (Nat.le_refl _) _).alloc (by omega) _⟩
  rw [← e]
  exact FtB.new _ _ _

/-- The small case's tree. -/
def smX : Ex := .both 2 (.both 2 (.var [97] 0) (.var [98] 4)) (.int 1 8)
theorem smX_fine : smX.fine := ⟨by decide, ⟨by decide, (show isNm [97] = true by decide), (show isNm [98] = true by decide)⟩, (show (0 : Int) ≤ 1 ∧ (1 : Int) ≤ 9223372036854775807 by decide)⟩
theorem rd_smX : rdR (⟨#[97, 32, 45, 32, 98, 32, 45, 32, 49]⟩ : ByteArray).data.toList = (some smX, 0, 0) := by
  have e : (⟨#[97, 32, 45, 32, 98, 32, 45, 32, 49]⟩ : ByteArray).data.toList = [97, 32, 45, 32, 98, 32, 45, 32, 49] := rfl
  rw [e, rd_small, smX]
theorem smX_nst : smX.nst ≤ 20 := by decide
theorem smX_tx : smX.tx = [97, 32, 45, 32, 98, 32, 45, 32, 49] := by decide +kernel

end Go.Proofs.YthgodhojhajahaaGreatDoor
