/-
  The decoder's methods: what each call does to the decoder's block and to nothing else.
-/
import Derived.Test.YtgiepkiogjkjjaaRows
import Derived.Test.YtgiepkiogjkjjaaTake
import Derived.Test.YtgiepkiogjkjjaaOpen
import Derived.WalkSpells
import Derived.WalkLawsBesides
import Derived.Deep.QuietTactic
import Derived.BigQuiet
namespace Go.Proofs.Ytgiepkiogjkjjaa
open Go.RowKit

/-- A decoder's block: how far it has come, its error, its bytes. -/
def DecAt (w : World) (B : Nat) (at' code : Int) (s : Value) : Prop := w.heap[B]? = some (.cells #[.int .i64 at', .int .i64 code, s] 62 (0, 0))

theorem DecAt.c0 {w : World} {B : Nat} {a c : Int} {s : Value} (h : DecAt w B a c s) : w.cell? ⟨B, 0, none⟩ = some (.int .i64 a) := by
  unfold DecAt at h; rw [cell_of_row w B 0 _ _ _ h]; rfl
theorem DecAt.c1 {w : World} {B : Nat} {a c : Int} {s : Value} (h : DecAt w B a c s) : w.cell? ⟨B, 1, none⟩ = some (.int .i64 c) := by
  unfold DecAt at h; rw [cell_of_row w B 1 _ _ _ h]; rfl
theorem DecAt.c2 {w : World} {B : Nat} {a c : Int} {s : Value} (h : DecAt w B a c s) : w.cell? ⟨B, 2, none⟩ = some s := by
  unfold DecAt at h; rw [cell_of_row w B 2 _ _ _ h]; rfl
theorem DecAt.f0 {w : World} {B : Nat} {a c : Int} {s : Value} (h : DecAt w B a c s) : w.frozen? ⟨B, 0, none⟩ = false := frozen_of_row w B 0 _ _ h
theorem DecAt.f1 {w : World} {B : Nat} {a c : Int} {s : Value} (h : DecAt w B a c s) : w.frozen? ⟨B, 1, none⟩ = false := frozen_of_row w B 1 _ _ h
theorem DecAt.lt {w : World} {B : Nat} {a c : Int} {s : Value} (h : DecAt w B a c s) : B < w.heap.size := lt_of_block h

theorem heap_setCell_row {w : World} {b i : Nat} {cs : Array Value} {u : Value} {t : TypeId} (h : w.heap[b]? = some (.cells cs t (0, 0))) : (w.setCell ⟨b, i, none⟩ u).heap[b]? = some (.cells (cs.setIfInBounds i u) t (0, 0)) := by
  have hlt := lt_of_block h
  have h' : w.heap[b] = .cells cs t (0, 0) := by simpa [Array.getElem?_eq_getElem hlt] using h
  show (w.heap.modify b _)[b]? = _
  rw [Array.getElem?_eq_getElem (by simpa using hlt), Array.getElem_modify_self, h']
  rfl

theorem DecAt.set0 {w : World} {B : Nat} {a c : Int} {s : Value} (h : DecAt w B a c s) (n : Int) : DecAt (w.setCell ⟨B, 0, none⟩ (.int .i64 n)) B n c s := heap_setCell_row h
theorem DecAt.set1 {w : World} {B : Nat} {a c : Int} {s : Value} (h : DecAt w B a c s) (n : Int) : DecAt (w.setCell ⟨B, 1, none⟩ (.int .i64 n)) B a n s := heap_setCell_row h

/-- What a method of the decoder at block B may do: it writes that block, no other, and makes none. -/
def Only (B : Nat) (w w' : World) : Prop := w.grownBy w' (some B) ∧ w'.heap.size = w.heap.size

theorem Only.refl (B : Nat) (w : World) : Only B w w := ⟨⟨rfl, rfl, rfl, Nat.le_refl _, fun _ _ _ => rfl⟩, rfl⟩
theorem Only.trans {B : Nat} {a b c : World} (h : Only B a b) (k : Only B b c) : Only B a c :=
  ⟨⟨k.1.os.trans h.1.os, k.1.tape.trans h.1.tape, k.1.output.trans h.1.output, Nat.le_trans h.1.size k.1.size, fun i hi hn => (k.1.block i (Nat.lt_of_lt_of_le hi h.1.size) hn).trans (h.1.block i hi hn)⟩, k.2.trans h.2⟩
theorem Only.drew {B : Nat} {a b : World} (h : Only B a b) : Only B a b.drew := ⟨⟨h.1.os, h.1.tape, h.1.output, h.1.size, h.1.block⟩, h.2⟩
theorem Only.drewN {B : Nat} {a b : World} (h : Only B a b) (n : Nat) : Only B a (b.drewN n) := ⟨⟨h.1.os, h.1.tape, h.1.output, h.1.size, h.1.block⟩, h.2⟩
theorem Only.set {B : Nat} {a b : World} (h : Only B a b) (i : Nat) (v : Value) : Only B a (b.setCell ⟨B, i, none⟩ v) :=
  h.trans ⟨⟨rfl, rfl, rfl, by simp [World.setCell], fun k _ hn => Below.heap_setCell _ _ _ _ (fun e => hn (by simpa using e))⟩, by simp [World.setCell]⟩
theorem DecAt.drewN {w : World} {B : Nat} {a c : Int} {s : Value} (h : DecAt w B a c s) (n : Nat) : DecAt (w.drewN n) B a c s := h

theorem advance_any (w : World) (B : Nat) (a c n : Int) (s : Value) (h : DecAt w B a c s) (h0 : 0 ≤ a) (h1 : 0 ≤ n) (h2 : a + n ≤ 1000000000000000000) :
    Calls Try.prog 40 #[.pointer (some ⟨B, 0, none⟩), .int .i64 n] w fun e w' => e = .returned (.tuple #[]) ∧ DecAt w' B (a + n) c s ∧ Only B w w' := by
  have c0 := h.c0
  have f0 := h.f0
  go_enter Try.func40, Try.ntmps40
  go_wp2
  go_end0
  exact ⟨rfl, h.set0 _, (Only.refl _ _).set _ _⟩

theorem fail_any (w : World) (B : Nat) (a c n : Int) (s : Value) (h : DecAt w B a c s) :
    Calls Try.prog 41 #[.pointer (some ⟨B, 0, none⟩), .int .i64 n] w fun e w' => e = .returned (.tuple #[]) ∧ DecAt w' B 0 n s ∧ Only B w w' := by
  have c0 := h.c0
  have f0 := h.f0
  have c1 := h.c1
  have f1 := h.f1
  go_enter Try.func41, Try.ntmps41
  go_wp2
  go_end0
  exact ⟨rfl, (h.set0 _).set1 _, ((Only.refl _ _).set _ _).set _ _⟩

end Go.Proofs.Ytgiepkiogjkjjaa
