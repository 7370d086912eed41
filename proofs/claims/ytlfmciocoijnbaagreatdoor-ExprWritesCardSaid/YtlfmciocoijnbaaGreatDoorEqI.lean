/-
  The document's Text.
-/
import Derived.Test.YtlfmciocoijnbaaGreatDoorEqH
import Derived.Test.YtlfmciocoijnbaaGreatDoorEqA
import Derived.Test.YtlfmciocoijnbaaGreatDoorEvBack
import Derived.Laws.BytesArg
namespace Go.Proofs.YtlfmciocoijnbaaGreatDoor
open Go.RowKit

theorem pexpr_all (u : World) (b : Nat) : ∀ (m : Nat) (x : GX), SizeOf.sizeOf x ≤ m → x.rng → GExp u b x
  | 0, x, hm, _ => by
    obtain ⟨k, n, s, o, l, p⟩ := x
    simp only [GX.mk.sizeOf_spec] at hm
    omega
  | m + 1, x, hm, hr => by
    have ih : ∀ (i : Nat) (z : GX), x.subs[i]? = some z → GPar u b z := fun i z hz => ppart_any u b z (pexpr_all u b m z (by have := sub_size hz; omega) (by
      obtain ⟨k, n, s, o, l, p⟩ := x
      rw [GX.rng] at hr
      exact rng_get hr.2.2.2 hz))
    by_cases h4 : x.kind = 4
    · exact pexpr_one u b x h4 ih
    by_cases h5 : x.kind = 5
    · exact pexpr_both u b x h5 ih
    exact pexpr_leaf u b x hr ⟨h4, h5⟩

theorem eshape_all : ∀ (m : Nat) (x : GX), SizeOf.sizeOf x ≤ m → ESh x
  | 0, x, hm => by
    obtain ⟨k, n, s, o, l, p⟩ := x
    simp only [GX.mk.sizeOf_spec] at hm
    omega
  | m + 1, x, hm => eshape_step x (fun i z hz => eshape_all m z (by have := sub_size hz; omega))

/-- The bytes of a page as a string. -/
theorem page_string {w : World} {B b : Nat} {l : List UInt8} (h : PB w B b l) (h0 : l ≠ []) : ∃ ao cap, w.cell? ⟨b, 0, none⟩ = some (.slice ao l.length cap) ∧
    (convert 61 9 (.slice ao l.length cap)).run Tryz.prog w = .ok (.string ⟨l.toArray⟩) w := by
  obtain ⟨_, v, hb, ho, _⟩ := h
  rcases ho.2 with ⟨hv, hz⟩ | ⟨g, cap, cur, hv, hg, hgc, hn, hm, hs, ht⟩
  · exact absurd (List.eq_nil_of_length_eq_zero hz) h0
  · refine ⟨some ⟨g, 0, none⟩, cap, by rw [Lib.cell_of_heap hb, hv]; rfl, ?_⟩
    refine run_convert_bytes_back (P := Tryz.prog) w 61 9 5 ⟨g, 0, none⟩ _ l Tryz.underlying61 Tryz.underlying5 Tryz.underlying9 (fun j hj => ?_)
    have hc := World.ownsRow.cells ho (g := g) (by rw [hv]; rfl) j (.int .u8 (l[j].toNat : Int)) (by simp [Lib.byteCells, hj])
    rw [Addr.add_lit] at hc
    rw [Addr.add_lit]
    exact hc

end Go.Proofs.YtlfmciocoijnbaaGreatDoor
