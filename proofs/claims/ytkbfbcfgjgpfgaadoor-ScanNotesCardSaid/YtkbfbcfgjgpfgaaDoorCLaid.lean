/-
  From the rows' listed variables to what the walks ask: the table of powers of ten; strconv.ErrRange.
-/
import Derived.Test.YtkbfbcfgjgpfgaaDoorLib
import Derived.LaidLaws
namespace Go.Proofs.YtkbfbcfgjgpfgaaDoor
open Go.RowKit Go.ChangeShapes

theorem powTab_of {n : String} {rest : List (String × DataW Unit)} {W : World} (hg : Tryd.prog.globalNamed n = some 4)
    (h : laidMet Tryd.prog ((n, Rows.laid_internal_strconv_uint64pow10) :: rest) W) : PowTab W := by
  have e : (Rows.laid_internal_strconv_uint64pow10 : DataW Unit) = Lib.tabData .u64 Lib.pow10Tab := by kernel_rfl
  rw [e] at h
  have ht := Lib.tabIs_of_head hg (t := 93) (e := 73) (n := 20) (by kernel_rfl) Tryd.underlying93 Tryd.underlying73 (by kernel_rfl) (by kernel_rfl) h
  unfold Lib.TabIs World.var? at ht
  rw [hg] at ht
  simp only [Option.bind_some] at ht
  split at ht
  · rename_i cs t fr hh
    injection ht with ht
    exact ⟨t, fr, by rw [hh, ht]⟩
  · cases ht

theorem errAt_of {n nm : String} {d : DataW Unit} {rest : List (String × DataW Unit)} {W : World} (hg : Tryd.prog.globalNamed n = some 3)
    (h : laidMet Tryd.prog ((n, .iface nm d) :: rest) W) : ErrAt W := by
  obtain ⟨ps, ⟨g0, t0, cs0, f0, p0, q0, hg0, ht0, hv0, hd0, _, e0⟩, _, _⟩ := h
  obtain rfl := Option.some.inj (hg.symm.trans hg0)
  obtain rfl := Option.some.inj ((show (Tryd.prog.globals[3]?).map (·.type) = some 62 by kernel_rfl).symm.trans ht0)
  obtain ⟨f1, u, v, hcs, _, _⟩ := iface_of_trod Tryd.underlying62 hd0
  have := World.var?_cell hg hv0 0
  obtain ⟨l0⟩ := cs0
  simp only at hcs
  subst hcs
  exact ⟨u, v, by simpa using this⟩

end Go.Proofs.YtkbfbcfgjgpfgaaDoor
