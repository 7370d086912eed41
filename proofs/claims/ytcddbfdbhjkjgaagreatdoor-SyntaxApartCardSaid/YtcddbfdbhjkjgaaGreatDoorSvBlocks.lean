/-
  The law SyntaxBlocks: its walk.
-/
import Derived.Test.YtcddbfdbhjkjgaaGreatDoorSvRooms
import Derived.Test.YtcddbfdbhjkjgaaGreatDoorSeF
namespace Go.Proofs.YtcddbfdbhjkjgaaGreatDoor
open Go.RowKit

/-- A chart, as it is read. -/
theorem chart_any (w : World) (s : ByteArray) (hVr : Vars w) (hV : Vs w) {R : Rs SyChart} (hR : syF s.data.toList = R) :
    Calls Tryz.prog 8 #[.string s] w fun e w' => ∃ y0 y1 y2 y3 y4 y5 y6 y7 y8 y9 F, e = .returned (.tuple #[.agg #[y0, y1, y2, y3, y4, y5, y6, y7, y8, y9], .agg #[.int .i64 R.fc, .int .i64 R.fp]]) ∧ (∀ u ∈ [y0, y1, y2, y3, y4, y5, y6, y7, y8, y9], u.oneCell' = true) ∧ DvsAt w' (dvChart true R.chart) [y0, y1, y2, y3, y4, y5, y6, y7, y8, y9] F ∧ F.Nodup ∧ (∀ g ∈ F, w.heap.size ≤ g) ∧ (∀ c p, R = .bad c p → c ≠ 0) ∧ Below w.heap.size w w' := by
  refine (sparse_any w s hVr hV).mono ?_
  rw [hR]
  rintro e w' ⟨ys, rfl, ⟨F, hr, h1, h2⟩, hl, hb, hz⟩
  have zo := hr.ones
  obtain ⟨y0, y1, y2, y3, y4, y5, y6, y7, y8, y9, rfl⟩ := cells10 hl
  exact ⟨y0, y1, y2, y3, y4, y5, y6, y7, y8, y9, F, rfl, zo, hr, h1, h2, hz, hb⟩
end Go.Proofs.YtcddbfdbhjkjgaaGreatDoor
