/-
  scan.Words.
-/
import Derived.Test.YtkbfbcfgjgpfgaaDoorScK
import Derived.Deep.WholeRow
import Derived.Laws.Tables
namespace Go.Proofs.YtkbfbcfgjgpfgaaDoor
open Go.RowKit

/-- The keywords in a block of their own. -/
def KwB (w : World) (g : Nat) : Prop := ∃ t, w.heap[g]? = some (.cells kwVals.toArray t (0, 0))

set_option maxHeartbeats 800000 in
set_option maxRecDepth 20000 in
theorem words_any (w : World) (hK : KwAt w) :
    Calls Tryd.prog 11 #[] w fun e w' => e = .returned (.slice (some ⟨w.heap.size, 0, none⟩) 16 16) ∧ KwB w' w.heap.size ∧ Below w.heap.size w w' := by
  obtain ⟨t, fr, hK⟩ := hK
  obtain ⟨A, hA⟩ : ∃ A, kwVals.toArray = A := ⟨_, rfl⟩
  have hAs : A.size = 16 := by rw [← hA]; rfl
  rw [hA] at hK
  have hsz : (Tryd.prog.info? 45).map (·.size) = some A.size := by rw [hAs]; kernel_rfl
  have HK := Lib.hid hK
  have HSZ := Lib.hid hsz
  have HA := Lib.hid hA
  have HAS := Lib.hid hAs
  have H1 : Hid (A.all (·.oneCell') = true) := by
    show _ = _
    rw [← hA]
    refine Array.all_eq_true_iff_forall_mem.2 (fun v hv => ?_)
    have hv : v ∈ kwVals := by simpa using hv
    simp only [kwVals, List.mem_map] at hv
    obtain ⟨x, _, rfl⟩ := hv
    rfl
  clear hA hAs hK hsz
  go_enter Tryd.func11, Tryd.ntmps11
  go_wp2_with first | (refine wpList_load_row rfl 45 (.global 0) rfl 0 rfl t A fr _ HK.out Tryd.underlying45 rfl HSZ.out ?_) | (refine wpList_store_row rfl 45 (.tmp 1) (.tmp 2) rfl w.heap.size A rfl rfl 45 _ (heap_alloc_new w _) HSZ.out (by rw [HAS.out]; rfl) H1.out ?_)
  go_ret
  refine ⟨rfl, ⟨45, ?_⟩, ?_⟩
  · rw [HA.out]
    exact setRow_heap _ _ _ _ _ _ (heap_alloc_new w _)
  · exact ((Below.refl _ w).alloc (Nat.le_refl _) _).trans ⟨rfl, rfl, rfl, by simp, fun k hk => setRow_other _ _ _ _ (by omega)⟩

end Go.Proofs.YtkbfbcfgjgpfgaaDoor
