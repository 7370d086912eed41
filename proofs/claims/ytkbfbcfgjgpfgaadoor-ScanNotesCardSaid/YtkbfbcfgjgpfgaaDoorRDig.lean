/-
  The document's digits: what pavaneref03.digits answers.
-/
import Derived.Test.YtkbfbcfgjgpfgaaDoorLib
import Derived.Deep.DeepCutAuto
import Derived.Deep.RegionHeld3
import Derived.Lib.ItoaNum
import Derived.Laws.IdiomStrings
namespace Go.Proofs.YtkbfbcfgjgpfgaaDoor
open Go.RowKit

theorem dig_held {P : Program} {md : Region.Mode} {ops : Array Oper} {Q : Exit → Act → World → Prop} {S S2 : World → Prop} (himp : ∀ w, S2 w → S w) :
    ∀ (fuel : Nat) (listed : Array Bool) (a : Act) (w : World), wpAnyH P md ops Q S2 fuel listed a w → wpAnyH P md ops Q S fuel listed a w
  | 0, _, _, _, h => h
  | fuel + 1, _, _, _, h => ⟨h.1, fun i hi => wpOp_mono (fun a' w' h' => ⟨himp _ h'.1, dig_held himp fuel _ a' w' h'.2⟩) (h.2 i hi)⟩

/-- A block of one byte, said of a world. -/
def OneByte (g : Nat) (d : Int) (W : World) : Prop := W.cell? ⟨g, 0, none⟩ = some (.int .u8 d)

/-- The byte of the last digit. -/
def dgB (u : Nat) : UInt8 := UInt8.ofNat (48 + u % 10)

theorem dgB_nat (u : Nat) : ((dgB u).toNat : Int) = ((48 + u % 10 : Nat) : Int) := by
  unfold dgB
  rw [UInt8.toNat_ofNat']
  omega

theorem OneByte.conv {g : Nat} {u : Nat} {W : World} (h : OneByte g ((48 + u % 10 : Nat) : Int) W) :
    (convert 57 9 (.slice (some ⟨g, 0, none⟩) 1 1)).run Tryd.prog W = .ok (.string ⟨#[dgB u]⟩) W := by
  have := run_convert_bytes_back (P := Tryd.prog) W 57 9 5 ⟨g, 0, none⟩ 1 [dgB u] Tryd.underlying57 Tryd.underlying5 Tryd.underlying9 (fun j hj => by
    obtain rfl : j = 0 := by simpa using hj
    simp only [List.getElem_cons_zero]
    rw [dgB_nat]
    exact h)
  simpa using this

theorem dig_byte (u : Nat) : IntKind.u8.wrap (IntKind.u64.wrap (48 + (u : Int).tmod 10)) = ((48 + u % 10 : Nat) : Int) := by
  have e : (u : Int).tmod 10 = ((u % 10 : Nat) : Int) := by rw [Int.tmod_eq_emod_of_nonneg (by omega)]; omega
  have e1 : IntKind.u64.wrap (48 + ((u % 10 : Nat) : Int)) = ((48 + u % 10 : Nat) : Int) := IntWalk.u64_in _ ⟨by omega, by omega⟩
  have e2 : IntKind.u8.wrap ((48 + u % 10 : Nat) : Int) = (((48 + u % 10 : Nat) : Int)) % 256 := rfl
  rw [e, e1, e2]
  omega

theorem OneByte.made (W : World) (d : Int) (t : TypeId) : OneByte W.heap.size d (W.alloc (.cells #[.int .u8 d] t)) := by
  exact cell_one_new W (Value.int .u8 d) t 0 _ rfl

/-- The digits of a number, none of 0. -/
def dec0 (u : Nat) : List UInt8 := if u = 0 then [] else Lib.decDigits u

theorem dec0_pos {u : Nat} (h : ¬ u = 0) : dec0 u = Lib.decDigits u := if_neg h

theorem dec0_step {u : Nat} (h : ¬ u = 0) : dec0 u = dec0 (u / 10) ++ [dgB u] := by
  rw [dec0_pos h, Lib.decDigits]
  by_cases h10 : u < 10
  · rw [dif_pos h10]
    have e : u / 10 = 0 := by omega
    rw [e]
    unfold dec0 dgB
    rw [if_pos rfl, Nat.mod_eq_of_lt h10]
    rfl
  · rw [dif_neg h10, dec0_pos (by omega)]
    rfl

theorem dec0_length {u : Nat} (k : Nat) (h : u < 10 ^ k) : (dec0 u).length ≤ k := by
  induction k generalizing u with
  | zero =>
    have : u = 0 := by simpa using h
    subst this
    simp [dec0]
  | succ k ih =>
    by_cases h0 : u = 0
    · subst h0; simp [dec0]
    · rw [dec0_step h0, List.length_append]
      have := ih (u := u / 10) (by rw [Nat.pow_succ] at h; omega)
      simp
      omega

theorem size_list (l : List UInt8) : (⟨l.toArray⟩ : ByteArray).size = l.length := by
  simp [ByteArray.size]

theorem append_list (l r : List UInt8) : (⟨l.toArray⟩ : ByteArray) ++ ⟨r.toArray⟩ = ⟨(l ++ r).toArray⟩ := by
  apply ByteArray.ext
  simp

end Go.Proofs.YtkbfbcfgjgpfgaaDoor
