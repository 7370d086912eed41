/-
  From the rows' listed variables to what the walks of stage 4 ask: the keywords.
-/
import Derived.Test.YtkbfbcfgjgpfgaaDoorCLaid
import Derived.Test.YtkbfbcfgjgpfgaaDoorScK
namespace Go.Proofs.YtkbfbcfgjgpfgaaDoor
open Go.RowKit Go.ChangeShapes

/-- An array of strings that reads as texts holds them, cell for cell. -/
theorem cells_of_texts {H : Type} {enc : TypeId × Value → H} {P : Program} {w : World} {base : Nat} {sp : Nat → Bool} {held : Bool} {fuel : Nat} {t e : TypeId} {n : Nat} {cs : List Value} {ks : List (List UInt8)} {p : List MemPlace}
    (ht : P.underlying t = some (.array n e)) (he : P.underlying e = some .string) (hce : P.cellsOf e = 1) (hct : P.cellsOf t = n)
    (h : DataW.trod enc P w base sp held fuel t cs = some (.agg (ks.map fun k => .lit (.string k)), p)) : cs = ks.map fun k => Value.string ⟨k.toArray⟩ := by
  cases fuel with
  | zero => simp [DataW.trod] at h
  | succ fuel =>
    simp only [DataW.trod, ht, hce, hct, Nat.mul_one] at h
    split at h
    · rename_i hl
      obtain ⟨xs, hm, hx⟩ := Option.map_eq_some_iff.1 h
      have hxs : xs.map (·.1) = ks.map fun k => (DataW.lit (.string k) : DataW H) := by
        have := congrArg Prod.fst hx
        simpa using this
      have hxl : xs.length = n := by simpa using Lib.mapM_length hm
      have hzl : ks.length = n := by
        have := congrArg List.length hxs
        simp at this
        omega
      apply List.ext_getElem?
      intro i
      by_cases hi : i < n
      · obtain ⟨b, hb, hf⟩ := Lib.mapM_at hm i i (by simp [hi])
        obtain ⟨s, hc, rfl, _⟩ := DataW.trod_string he hf
        have h1 : cs[i]? = some (.string s) := by
          have := congrArg (·[0]?) hc
          simpa [List.getElem?_take, List.getElem?_drop] using this
        have h2 : (xs.map (·.1))[i]? = some (DataW.lit (.string s.data.toList) : DataW H) := by simp [hb]
        rw [hxs] at h2
        simp only [List.getElem?_map, Option.map_eq_some_iff, DataW.lit.injEq, Lit.string.injEq] at h2
        obtain ⟨k, hk, rfl⟩ := h2
        simp [h1, hk]
      · rw [List.getElem?_eq_none (by omega), List.getElem?_eq_none (by simp; omega)]
    · cases h

theorem kwAt_of {n : String} {rest : List (String × DataW Unit)} {W : World} (hg : Tryd.prog.globalNamed n = some 0)
    (h : laidMet Tryd.prog ((n, Rows.laid_pavane_scan_keywords) :: rest) W) : KwAt W := by
  have e : (Rows.laid_pavane_scan_keywords : DataW Unit) = .agg (kws.map fun k => .lit (.string k)) := by kernel_rfl
  rw [e] at h
  obtain ⟨ps, ⟨g', t', cs, fuel, p, q, hg', ht', hvar, hd, _, _⟩, _⟩ := h
  obtain rfl := Option.some.inj (hg.symm.trans hg')
  obtain rfl := Option.some.inj ((show (Tryd.prog.globals[0]?).map (·.type) = some 45 by kernel_rfl).symm.trans ht')
  have hcs := cells_of_texts (n := 16) Tryd.underlying45 Tryd.underlying9 (by kernel_rfl) (by kernel_rfl) hd
  unfold World.var? at hvar
  rw [hg] at hvar
  simp only [Option.bind_some] at hvar
  split at hvar
  · rename_i cs' t fr hh
    injection hvar with hvar
    refine ⟨t, fr, ?_⟩
    rw [hh, hvar]
    congr 2
    apply Array.toList_inj.1
    rw [hcs]
    rfl
  · cases hvar

end Go.Proofs.YtkbfbcfgjgpfgaaDoor
