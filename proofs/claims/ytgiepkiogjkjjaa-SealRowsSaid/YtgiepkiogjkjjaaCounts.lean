/-
  The law OctetCounts: its walk.
-/
import Derived.Test.YtgiepkiogjkjjaaOwned
import Derived.Test.YtgiepkiogjkjjaaBackW
namespace Go.Proofs.Ytgiepkiogjkjjaa
open Go.RowKit

/-- What an encoder tells: a row of one's own, or nothing, and an error's number. -/
def Coded (w w' : World) (v : Value) (xs : List Int) : Prop := w'.ownsRow w.heap.size 5 1 v xs.length (xs.map (Value.int .u8)) ∧ Below w.heap.size w w'

theorem Coded.nil (w : World) : Coded w w (.slice none 0 0) [] := ⟨World.ownsRow_nil _ _ _ _, Below.refl _ _⟩

def ctCode (n : Int) : Int := if n < 0 then 1 else 0
def ctRow (n : Int) : List Int := if n < 0 then [] else enc n.toNat

theorem uint_all (n : Int) (w : World) (h : n ≤ 9223372036854775807) :
    Calls Try.prog 22 #[.int .i64 n] w fun e w' => ∃ v, e = .returned (.tuple #[v, .int .i64 (ctCode n)]) ∧ Coded w w' v (ctRow n) := by
  by_cases hn : n < 0
  · refine (uint_neg n w hn).mono ?_
    rintro e w' ⟨rfl, rfl⟩
    exact ⟨_, by rw [ctCode, if_pos hn], by rw [ctRow, if_pos hn]; exact Coded.nil w⟩
  · obtain ⟨m, rfl⟩ := Int.eq_ofNat_of_zero_le (by omega : 0 ≤ n)
    refine (uint_pos m w (by omega)).mono ?_
    rintro e w' ⟨g, c, rfl, ho, hb⟩
    exact ⟨_, by rw [ctCode, if_neg hn], by rw [ctRow, if_neg hn]; exact ⟨ho, hb⟩⟩

theorem ruint_all (n : Int) (w : World) (h : n ≤ 9223372036854775807) :
    Calls Try.prog 25 #[.int .i64 n] w fun e w' => ∃ v, e = .returned (.tuple #[v, .int .i64 (ctCode n)]) ∧ Coded w w' v (ctRow n) := by
  by_cases hn : n < 0
  · refine (ruint_neg n w hn).mono ?_
    rintro e w' ⟨rfl, rfl⟩
    exact ⟨_, by rw [ctCode, if_pos hn], by rw [ctRow, if_pos hn]; exact Coded.nil w⟩
  · obtain ⟨m, rfl⟩ := Int.eq_ofNat_of_zero_le (by omega : 0 ≤ n)
    refine (ruint_pos m w (by omega)).mono ?_
    rintro e w' ⟨v, rfl, ⟨g, c, hv, ho⟩, hb⟩
    exact ⟨_, by rw [ctCode, if_neg hn], by rw [ctRow, if_neg hn]; exact ⟨ho, hb⟩⟩

/-- An owned row is in memory of one's own: its block, how many cells. -/
theorem own_slice {w : World} {B : Nat} {e : TypeId} {size : Nat} {v : Value} {n : Nat} {xs : List Value} (h : w.ownsRow B e size v n xs) : ∃ ao l c, v = .slice ao l c := by
  rcases h.2 with ⟨h, _⟩ | ⟨g, cap, cur, h, _⟩
  · exact ⟨_, _, _, h⟩
  · exact ⟨_, _, _, h⟩

theorem ownB_of {w : World} {B : Nat} {v : Value} {n : Nat} {xs : List Value} (h : w.ownsRow B 5 1 v n xs) :
    ∃ g c, OwnB w v g c ∧ (v ≠ .slice none 0 0 → B ≤ g ∧ g < w.heap.size) ∧ c ≤ maxLen := by
  rcases h.2 with ⟨rfl, rfl⟩ | ⟨g, cap, cur, rfl, hb, hg, h3, h4, h5, _⟩
  · exact ⟨0, 0, .inl ⟨rfl, rfl⟩, fun hne => absurd rfl hne, by unfold maxLen; omega⟩
  · exact ⟨g, cap, .inr ⟨n, rfl, h3, cur, hg, by omega⟩, fun _ => ⟨hb, lt_of_block hg⟩, h4⟩

theorem two_cells (W : World) (u v : Value) : ∀ i, i < 2 → (W.alloc (.cells #[u, v] 22)).cell? ⟨W.heap.size, i, none⟩ = some (if i = 0 then u else v) := by
  intro i hi
  rw [cell_of_row _ W.heap.size i _ _ _ (heap_alloc_new W _)]
  match i, hi with
  | 0, _ => rfl
  | 1, _ => rfl

/-- Two rows, one the call's own or nil, the other a block that is known. -/
theorem rows2 {W : World} {B n L gin ga ca : Nat} {va : Value} {xs : List Int} (hb : BlockIs W gin xs) (hl : xs.length = L) (hn : n ≤ L) (hL : L ≤ 9223372036854775807) (hB : B ≤ gin)
    (ha : OwnB W va ga ca) (hga : va ≠ .slice none 0 0 → B ≤ ga ∧ ga < W.heap.size ∧ ga ≠ gin) (hca : ca ≤ 9223372036854775807) :
    Rows4 (W.alloc (.cells #[va, .slice (some ⟨gin, 0, none⟩) n L] 22)) B W.heap.size 2 (fun i => if i = 0 then va else .slice (some ⟨gin, 0, none⟩) n L) (fun i => if i = 0 then ga else gin) (fun i => if i = 0 then ca else L) where
  head := two_cells W _ _
  own := by
    intro i hi
    match i, hi with
    | 0, _ => exact ha.same (fun hne => Below.heap_alloc _ _ _ (hga hne).2.1)
    | 1, _ =>
      refine .inr ⟨n, rfl, hn, (xs.map (Value.int .u8)).toArray, ?_, ?_⟩
      · exact (Below.heap_alloc _ _ _ hb.lt).trans hb
      · simpa using hl
  far := by
    intro i hi hne
    match i, hi with
    | 0, _ => exact ⟨(hga hne).1, Nat.ne_of_lt (hga hne).2.1⟩
    | 1, _ => exact ⟨hB, Nat.ne_of_lt hb.lt⟩
  apart := by
    intro i j hi hj hij h1 h2
    match i, hi, j, hj with
    | 0, _, 1, _ => exact (hga h1).2.2
    | 1, _, 0, _ => exact fun e => (hga h2).2.2 e.symm
    | 0, _, 0, _ => exact absurd rfl hij
    | 1, _, 1, _ => exact absurd rfl hij
  small := by
    intro i hi
    match i, hi with
    | 0, _ => exact hca
    | 1, _ => exact hL

end Go.Proofs.Ytgiepkiogjkjjaa
