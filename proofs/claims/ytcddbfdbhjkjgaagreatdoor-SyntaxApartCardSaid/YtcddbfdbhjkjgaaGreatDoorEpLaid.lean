/-
  From the rows' listed variables to what the walks of stage 5 ask: the operators' signs.
-/
import Derived.Test.YtcddbfdbhjkjgaaGreatDoorXA
import Derived.Test.YtcddbfdbhjkjgaaGreatDoorEA
namespace Go.Proofs.YtcddbfdbhjkjgaaGreatDoor
open Go.RowKit Go.ChangeShapes

theorem sgAt_of {n : String} {rest : List (String × DataW Unit)} {W : World} (hg : Tryz.prog.globalNamed n = some 4)
    (h : laidMet Tryz.prog ((n, Rows.laid_pavane_expr_signs) :: rest) W) : SgAt W := by
  have e : (Rows.laid_pavane_expr_signs : DataW Unit) = .agg (sgs.map fun k => .lit (.string k)) := by kernel_rfl
  rw [e] at h
  obtain ⟨ps, ⟨g', t', cs, fuel, p, q, hg', ht', hvar, hd, _, _⟩, _⟩ := h
  obtain rfl := Option.some.inj (hg.symm.trans hg')
  obtain rfl := Option.some.inj ((show (Tryz.prog.globals[4]?).map (·.type) = some 146 by kernel_rfl).symm.trans ht')
  have hcs := cells_of_texts (n := 16) Tryz.underlying146 Tryz.underlying9 (by kernel_rfl) (by kernel_rfl) hd
  unfold World.var? at hvar
  rw [hg] at hvar
  simp only [Option.bind_some] at hvar
  split at hvar
  · rename_i cs' t fr hh
    injection hvar with hvar
    refine ⟨t, fr, ?_⟩
    rw [hh, hvar]
    congr 2
    apply Array.toList_inj.1
    rw [hcs]
    rfl
  · cases hvar

end Go.Proofs.YtcddbfdbhjkjgaaGreatDoor
