/-
  The decoder's list, and TakeInts.
-/
import Derived.Test.YtgiepkiogjkjjaaText
namespace Go.Proofs.Ytgiepkiogjkjjaa
open Go.RowKit

theorem infoI64 : (Try.prog.info? 3).map (fun i => (i.zero, i.size, i.bytes)) = some (some (.int .i64 0), 1, 8) := by kernel_rfl

/-- A row of int that is the call's own: its first numbers, then as many zeros as are left. -/
def rowOf (vs : List Int) (n : Nat) : List Value := (vs ++ List.replicate n 0).map (Value.int .i64)

theorem rowOf_set (vs : List Int) (n : Nat) (x : Int) : (rowOf vs (n + 1)).set vs.length (.int .i64 x) = rowOf (vs ++ [x]) n := by
  unfold rowOf
  rw [← List.map_set]
  congr 1
  rw [List.set_append_right _ _ (Nat.le_refl _)]
  simp [List.replicate_succ]

theorem rowOf_len (vs : List Int) (n : Nat) : (rowOf vs n).length = vs.length + n := by simp [rowOf]

theorem grownBy_trans {a b c : World} {row : Option Nat} (h : a.grownBy b row) (k : b.grownBy c row) : a.grownBy c row :=
  ⟨k.os.trans h.os, k.tape.trans h.tape, k.output.trans h.output, Nat.le_trans h.size k.size, fun i hi hn => (k.block i (Nat.lt_of_lt_of_le hi h.size) hn).trans (h.block i hi hn)⟩

/-- What may become of a world whose block B is written while blocks from G on come and are written. -/
def Grows (B G : Nat) (w w' : World) : Prop :=
  w'.os = w.os ∧ w'.tape = w.tape ∧ w'.output = w.output ∧ w.heap.size ≤ w'.heap.size ∧ ∀ k, k < G → k ≠ B → w'.heap[k]? = w.heap[k]?

theorem Grows.refl (B G : Nat) (w : World) : Grows B G w w := ⟨rfl, rfl, rfl, Nat.le_refl _, fun _ _ _ => rfl⟩
theorem Grows.trans {B G : Nat} {a b c : World} (h : Grows B G a b) (k : Grows B G b c) : Grows B G a c :=
  ⟨k.1.trans h.1, k.2.1.trans h.2.1, k.2.2.1.trans h.2.2.1, Nat.le_trans h.2.2.2.1 k.2.2.2.1, fun i hi hn => (k.2.2.2.2 i hi hn).trans (h.2.2.2.2 i hi hn)⟩
theorem Only.grows {B G : Nat} {a b : World} (h : Only B a b) (hG : G ≤ a.heap.size) : Grows B G a b :=
  ⟨h.1.os, h.1.tape, h.1.output, h.1.size, fun k hk hn => h.1.block k (by omega) (by simpa using hn)⟩
theorem Grows.of_own {B G g : Nat} {a b : World} (h : a.grownBy b (some g)) (hg : G ≤ g) (hG : G ≤ a.heap.size) : Grows B G a b :=
  ⟨h.os, h.tape, h.output, h.size, fun k hk _ => h.block k (by omega) (by simp; omega)⟩
theorem Grows.of_new {B G : Nat} {a b : World} (h : a.grownBy b none) (hG : G ≤ a.heap.size) : Grows B G a b :=
  ⟨h.os, h.tape, h.output, h.size, fun k hk _ => h.block k (by omega) (by simp)⟩
theorem DecAt.grownBy {w w' : World} {B : Nat} {a c : Int} {s : Value} {row : Option Nat} (h : DecAt w B a c s) (hg : w.grownBy w' row) (hn : some B ≠ row) : DecAt w' B a c s := by
  unfold DecAt
  rw [hg.block B h.lt hn]
  exact h

/-- What TakeInts tells of a list: nothing beside an error; else a row of the call's own. -/
def ListIs (w' : World) (G : Nat) (v : Value) (T : List Int × Nat × Int) : Prop :=
  (T.2.2 ≠ 0 ∧ v = .slice none 0 0) ∨ (T.2.2 = 0 ∧ ∃ g, v = .slice (some ⟨g, 0, none⟩) T.1.length T.1.length ∧ w'.ownsRow G 3 1 v T.1.length (T.1.map (Value.int .i64)))

theorem Reads.grows {w w' : World} {a : Option Addr} {bs : List Int} {B : Nat} (h : Reads w a bs) (ho : Grows B w.heap.size w w') (hB : bs ≠ [] → ∀ b off, a = some ⟨b, off, none⟩ → b ≠ B) : Reads w' a bs := by
  rcases h with h | ⟨b, off, ha, hc⟩
  · exact .inl h
  · have hne : bs ≠ [] ∨ bs = [] := by cases bs <;> simp
    rcases hne with hne | hne
    rotate_left
    · exact .inl hne
    refine .inr ⟨b, off, ha, fun i hi => ?_⟩
    have h1 := hc i hi
    have h2 := World.block_lt_of_cell? w _ h1
    rw [← h1]
    exact World.cell?_of_block (w := w) (ho.2.2.2.2 b h2 (hB hne b off ha))

theorem rowOf_at (vs : List Int) (n : Nat) : (rowOf vs (n + 1))[vs.length]? = some (.int .i64 0) := by
  unfold rowOf
  rw [List.getElem?_map, List.getElem?_append_right (Nat.le_refl _)]
  simp

theorem ListIs.drawn {w : World} {G : Nat} {v : Value} {T : List Int × Nat × Int} (h : ListIs w G v T) (n : Nat) : ListIs (w.drewN n) G v T := h

theorem Grows.below {w w' : World} {o : Obj} (h : Grows w.heap.size (w.alloc o).heap.size (w.alloc o) w') : Below w.heap.size w w' :=
  ((Below.refl _ w).alloc (Nat.le_refl _) o).trans ⟨h.1, h.2.1, h.2.2.1, h.2.2.2.1, fun k hk => h.2.2.2.2 k (by simp; omega) (by omega)⟩

end Go.Proofs.Ytgiepkiogjkjjaa
