/-
  The law OctetRows: its walk.
-/
import Derived.Test.YtkjcdndlhjacfaaOwnI
namespace Go.Proofs.Ytkjcdndlhjacfaa
open Go.RowKit

def rwCode (l : Nat) : Int := if l ≤ 4096 then 0 else 2
def rwRow (ns : List Int) : List Int := if ns.length ≤ 4096 then enc ns.length ++ encs ns else []

theorem ints_all (a : Option Addr) (len cap : Nat) (ns : List Int) (w : World) (hlen : ns.length = len) (hr : ReadsI w a ns) (hns : ∀ x ∈ ns, -9223372036854775808 ≤ x ∧ x ≤ 9223372036854775807) :
    Calls Try.prog 25 #[.slice a len cap] w fun e w' => ∃ v, e = .returned (.tuple #[v, .int .i64 (rwCode len)]) ∧ Coded w w' v (rwRow ns) := by
  by_cases hn : len ≤ 4096
  · refine (ints_short a len cap ns w hn hlen hr hns).mono ?_
    rintro e w' ⟨v, rfl, ⟨g, c, hv, ho⟩, hb⟩
    exact ⟨_, by rw [rwCode, if_pos hn], by rw [rwRow, hlen, if_pos hn]; exact ⟨ho, hb⟩⟩
  · refine (ints_long a len cap w (by omega)).mono ?_
    rintro e w' ⟨rfl, rfl⟩
    exact ⟨_, by rw [rwCode, if_neg hn], by rw [rwRow, hlen, if_neg hn]; exact Coded.nil w⟩

theorem rints_all (a : Option Addr) (len cap : Nat) (ns : List Int) (w : World) (hlen : ns.length = len) (hr : ReadsI w a ns) (hns : ∀ x ∈ ns, -9223372036854775808 ≤ x ∧ x ≤ 9223372036854775807) :
    Calls Try.prog 27 #[.slice a len cap] w fun e w' => ∃ v, e = .returned (.tuple #[v, .int .i64 (rwCode len)]) ∧ Coded w w' v (rwRow ns) := by
  by_cases hn : len ≤ 4096
  · refine (rints_short a len cap ns w hn hlen hr hns).mono ?_
    rintro e w' ⟨v, rfl, ⟨g, c, hv, ho⟩, hb⟩
    exact ⟨_, by rw [rwCode, if_pos hn], by rw [rwRow, hlen, if_pos hn]; exact ⟨ho, hb⟩⟩
  · refine (rints_long a len cap w (by omega)).mono ?_
    rintro e w' ⟨rfl, rfl⟩
    exact ⟨_, by rw [rwCode, if_neg hn], by rw [rwRow, hlen, if_neg hn]; exact Coded.nil w⟩

/-- A row of int of one's own that is not nil: its block and what may be done with it. -/
theorem ownI_mid {w : World} {B : Nat} {v : Value} {n : Nat} {xs : List Value} (h : w.ownsRow B 3 1 v n xs) (hv : v ≠ .slice none 0 0) :
    ∃ g cap, v = .slice (some ⟨g, 0, none⟩) n cap ∧ B ≤ g ∧ g < w.heap.size ∧ n ≤ cap ∧ cap ≤ 9223372036854775807 ∧ ∀ x, MidI w g cap 0 x := by
  rcases h.2 with ⟨rfl, _⟩ | ⟨g, cap, cur, rfl, hb, hg, h3, h4, h5, _⟩
  · exact absurd rfl hv
  · exact ⟨g, cap, rfl, hb, lt_of_block hg, h3, by unfold maxLen at h4; omega, fun x => ⟨cur, hg, by omega, by simp⟩⟩

theorem ownsI_empty (w : World) : (w.alloc (.cells #[] 3)).ownsRow w.heap.size 3 1 (.slice (some ⟨w.heap.size, 0, none⟩) 0 0) 0 (([] : List Int).map (Value.int .i64)) :=
  World.ownsRow_made w #[] 0 (Nat.le_refl _) (by unfold maxLen; omega) (by simp)

theorem owni_all (w : World) (B gb nb cb : Nat) (va : Value) (hva : va = .slice none 0 0 ∨ ∃ ga na ca, va = .slice (some ⟨ga, 0, none⟩) na ca ∧ na ≤ ca ∧ ca ≤ 9223372036854775807 ∧ B ≤ ga ∧ ga ≠ gb ∧ ∀ x, MidI w ga ca 0 x)
    (hb : ∀ x, MidI w gb cb 0 x) (hnb : nb ≤ cb) (hcb : cb ≤ 9223372036854775807) (hBb : B ≤ gb) :
    Calls Try.prog 30 #[va, .slice (some ⟨gb, 0, none⟩) nb cb] w fun e w' => e = .returned (.bool true) ∧ Below B w w' := by
  rcases hva with rfl | ⟨ga, na, ca, rfl, h1, h2, h3, h4, h5⟩
  · exact owni_none w B gb nb cb hb hnb hcb hBb
  · exact owni_some w B ga na ca gb nb cb h5 hb h1 hnb h2 hcb h3 hBb h4

/-- What TakeInts tells, as a row that its owner may write over. -/
theorem ListIs.own {w : World} {G : Nat} {v : Value} {T : List Int × Nat × Int} (h : ListIs w G v T) :
    v = .slice none 0 0 ∨ ∃ ga na ca, v = .slice (some ⟨ga, 0, none⟩) na ca ∧ na ≤ ca ∧ ca ≤ 9223372036854775807 ∧ G ≤ ga ∧ ga < w.heap.size ∧ ∀ x, MidI w ga ca 0 x := by
  rcases h with ⟨_, h⟩ | ⟨_, g, h, ho⟩
  · exact .inl h
  · have hne : v ≠ .slice none 0 0 := by rw [h]; simp
    obtain ⟨g2, cap, hv, h1, h2, h3, h4, h5⟩ := ownI_mid ho hne
    exact .inr ⟨g2, _, cap, hv, h3, h4, h1, h2, h5⟩

end Go.Proofs.Ytkjcdndlhjacfaa
