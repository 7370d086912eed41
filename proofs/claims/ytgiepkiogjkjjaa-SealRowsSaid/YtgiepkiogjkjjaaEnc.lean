/-
  What encodes: fold, Int, Text, Ints.
-/
import Derived.Test.YtgiepkiogjkjjaaUint
import Derived.Test.YtgiepkiogjkjjaaOpen
import Derived.Lib.AppendStr
namespace Go.Proofs.Ytgiepkiogjkjjaa
open Go.RowKit

/-- The number whose varint stands for n. -/
def fo (n : Int) : Nat := if 0 ≤ n then (2 * n).toNat else (-2 * n - 1).toNat

theorem xor_ones64 (a : Nat) (h : a < 2 ^ 64) : a ^^^ (2 ^ 64 - 1) = 2 ^ 64 - 1 - a := by
  have e := congrArg BitVec.toNat (BitVec.xor_allOnes (x := BitVec.ofNat 64 a))
  rw [BitVec.toNat_xor, BitVec.toNat_not, BitVec.toNat_allOnes, BitVec.toNat_ofNat, Nat.mod_eq_of_lt h] at e
  exact e

theorem wrap_u64 (n : Int) : IntKind.u64.wrap n = n % 18446744073709551616 := rfl

theorem fold_bits (n : Int) (h0 : -9223372036854775808 ≤ n) (h1 : n ≤ 9223372036854775807) :
    bits .xor .u64 (IntKind.u64.wrap (IntKind.u64.wrap n * 2)) (IntKind.u64.wrap (n / 9223372036854775808)) = ((fo n : Nat) : Int) := by
  rw [wrap_u64, wrap_u64, wrap_u64]
  by_cases hn : 0 ≤ n
  · have e1 : n % 18446744073709551616 * 2 % 18446744073709551616 = ((2 * n).toNat : Int) := by omega
    have e2 : n / 9223372036854775808 % 18446744073709551616 = ((0 : Nat) : Int) := by omega
    rw [e1, e2, u64_xor_nat _ _ (by omega) (by decide), Nat.xor_zero]
    unfold fo; rw [if_pos hn]
  · have e1 : n % 18446744073709551616 * 2 % 18446744073709551616 = ((2 * n + 18446744073709551616).toNat : Int) := by omega
    have e2 : n / 9223372036854775808 % 18446744073709551616 = ((2 ^ 64 - 1 : Nat) : Int) := by omega
    rw [e1, e2, u64_xor_nat _ _ (by omega) (by decide), xor_ones64 _ (by omega)]
    unfold fo; rw [if_neg hn]
    omega

theorem fo_lt (n : Int) (h0 : -9223372036854775808 ≤ n) (h1 : n ≤ 9223372036854775807) : fo n < 2 ^ 64 := by
  unfold fo; split <;> omega

theorem ret_u64' {a b : Int} (h : a = b) : Ending.returned (.int .u64 a) = .returned (.int .u64 b) := by rw [h]

/-- A row of bytes that the call has made: its value, and that it is owned from G on. -/
def Made (w' : World) (G : Nat) (v : Value) (xs : List Int) : Prop :=
  ∃ g cap, v = .slice (some ⟨g, 0, none⟩) xs.length cap ∧ w'.ownsRow G 5 1 v xs.length (xs.map (Value.int .u8))

/-- A string's bytes as numbers. -/
def sb (s : ByteArray) : List Int := s.data.toList.map fun b => (b.toNat : Int)

theorem sb_length (s : ByteArray) : (sb s).length = s.size := by
  rw [sb, List.length_map, Array.length_toList]; rfl
theorem sb_cells (s : ByteArray) : Lib.strCells s = (sb s).map (Value.int .u8) := by simp [Lib.strCells, sb]
theorem sb_range (s : ByteArray) : ∀ x ∈ sb s, 0 ≤ x ∧ x < 256 := by
  intro x hx
  simp only [sb, List.mem_map] at hx
  obtain ⟨b, _, rfl⟩ := hx
  have := b.toNat_lt
  omega

theorem sb_str (s : ByteArray) : strOfNums (sb s) = s := by
  have e : (strOfNums (sb s)).data.toList = s.data.toList := by
    rw [strOfNums_data, sb, List.map_map]
    conv => rhs; rw [← List.map_id s.data.toList]
    apply List.map_congr_left
    intro b _
    simp
  exact WideShapes.bytes_inj e

theorem made_of {w : World} {G : Nat} {v : Value} {n : Nat} {xs : List Int} (h : w.ownsRow G 5 1 v n (xs.map (Value.int .u8))) (h0 : 0 < xs.length) : Made w G v xs := by
  have e : n = xs.length := by have := h.1; simp at this; omega
  subst e
  obtain ⟨g, cap, hv, _⟩ := ownsRow_some h h0
  exact ⟨g, cap, hv, h⟩

/-- Ints that came in: a slice's value and the numbers that it leads to. -/
def ReadsI (w : World) (a : Option Addr) (ns : List Int) : Prop := ns = [] ∨ ∃ b off, a = some ⟨b, off, none⟩ ∧ ∀ i, i < ns.length → w.cell? ⟨b, off + i, none⟩ = some (.int .i64 (ns.getD i 0))

theorem ReadsI.below {w w' : World} {a : Option Addr} {ns : List Int} (h : ReadsI w a ns) (ho : Below w.heap.size w w') : ReadsI w' a ns := by
  rcases h with h | ⟨b, off, ha, hc⟩
  · exact .inl h
  · refine .inr ⟨b, off, ha, fun i hi => ?_⟩
    have h1 := hc i hi
    have h2 := World.block_lt_of_cell? w _ h1
    rw [← h1]
    exact World.cell?_of_block (w := w) (ho.block b h2)

def encs (ns : List Int) : List Int := ns.flatMap fun n => enc (fo n)

theorem encs_take (ns : List Int) (k : Nat) (h : k < ns.length) : encs (ns.take (k + 1)) = encs (ns.take k) ++ enc (fo (ns.getD k 0)) := by
  unfold encs
  rw [List.take_succ_eq_append_getElem h, List.flatMap_append]
  simp [List.getD, List.getElem?_eq_getElem h]

theorem encs_length : ∀ (ns : List Int), (∀ x ∈ ns, -9223372036854775808 ≤ x ∧ x ≤ 9223372036854775807) → (encs ns).length ≤ 10 * ns.length := by
  intro ns
  induction ns with
  | nil => intro _; simp [encs]
  | cons n ns ih =>
    intro h
    have h1 := ih fun x hx => h x (by simp [hx])
    have h2 := h n (by simp)
    have h3 := enc_length (fo n) (by have := fo_lt n h2.1 h2.2; omega)
    simp only [encs, List.flatMap_cons, List.length_append, List.length_cons] at h1 ⊢
    omega

end Go.Proofs.Ytgiepkiogjkjjaa
