/-
  The scanner: what is left, whether it begins with given bytes, how long a line is, a step forward.
-/
import Derived.Test.YtkbfbcfgjgpfgaaDoorScK
import Derived.Deep.QuietTactic
import Derived.BigQuiet
import Derived.Shelf.Strings.Prefix
import Derived.Shelf.Small.Strs
import Derived.Shelf.Strconv.Clone
namespace Go.Proofs.YtkbfbcfgjgpfgaaDoor
open Go.RowKit

/-- A scanner at a place of a source. -/
def Scn (w : World) (b p : Nat) (s : ByteArray) : Prop := w.heap[b]? = some (.cells #[.int .i64 (p : Int), .string s] 39 (0, 0))

section
variable {w w' : World} {b p : Nat} {s : ByteArray}
theorem Scn.lt (h : Scn w b p s) : b < w.heap.size := by
  rcases Nat.lt_or_ge b w.heap.size with hlt | hge
  · exact hlt
  · unfold Scn at h; rw [Array.getElem?_eq_none hge] at h; cases h
theorem Scn.c0 (h : Scn w b p s) : w.cell? ⟨b, 0, none⟩ = some (.int .i64 (p : Int)) := cell_of_row w b 0 _ _ _ h
theorem Scn.c1 (h : Scn w b p s) : w.cell? ⟨b, 1, none⟩ = some (.string s) := cell_of_row w b 1 _ _ _ h
theorem Scn.fr (h : Scn w b p s) (i : Nat) : w.frozen? ⟨b, i, none⟩ = false := by
  unfold Scn at h
  simp [World.frozen?, h]
theorem Scn.below (h : Scn w b p s) (hb : Below w.heap.size w w') : Scn w' b p s := (hb.block b h.lt).trans h
theorem Scn.alloc (h : Scn w b p s) (o : Obj) : Scn (w.alloc o) b p s := (Below.heap_alloc w o b h.lt).trans h
end

theorem drewN_below (w : World) (m : Nat) : Below w.heap.size w (w.drewN m) := ⟨rfl, rfl, rfl, Nat.le_refl _, fun _ _ => rfl⟩

theorem extract_drop (s : ByteArray) (p : Nat) : (s.extract p s.size).data.toList = s.data.toList.drop p := by
  have e : s.data.toList.length = s.size := rfl
  rw [ByteArray.data_extract, Array.toList_extract, List.extract_eq_take_drop]
  rw [List.take_of_length_le (by rw [List.length_drop, e]; exact Nat.le_refl _)]

set_option maxRecDepth 20000 in
theorem rest_any (w : World) (b p : Nat) (s : ByteArray) (h : Scn w b p s) (hp : p ≤ s.size) :
    Calls Tryd.prog 33 #[.pointer (some ⟨b, 0, none⟩)] w fun e w' => e = .returned (.string (s.extract p s.size)) ∧ ∃ m, w' = w.drewN m := by
  have h0 := h.c0
  have h1 := h.c1
  clear h
  have hp' : (p : Int) ≤ s.size := by omega
  go_enter Tryd.func33, Tryd.ntmps33
  go_wp2_with fail
  go_quiet (fail)
  go_wp2_with fail
  go_ret
  exact ⟨rfl, _, rfl⟩

theorem prefix_any (s q : ByteArray) (w : World) :
    Calls Tryd.prog 38 #[.string s, .string q] w fun e w' => e = .returned (.bool (q.data.toList.isPrefixOf s.data.toList)) ∧ w' = w :=
  Any.strings_HasPrefix Tryd.lays99 s q w

theorem index_any (s : ByteArray) (c : Int) (w : World) :
    Calls Tryd.prog 39 #[.string s, .int .u8 c] w fun e w' => e = .returned (.int .i64 (Lib.indexByte s.data.toList c.toNat.toUInt8)) ∧ w' = w :=
  Any.strings_IndexByte Tryd.lays137 s c w

theorem sclone_any (s : ByteArray) (w : World) (hs : s.size ≤ 140737488351232) :
    Calls Tryd.prog 45 #[.string s] w fun e w' => e = .returned (.string s) ∧ Below w.heap.size w w' :=
  Any.stringslite_Clone Tryd.laysM316 s w (by omega)

theorem clone_any (s : ByteArray) (w : World) (hs : s.size ≤ 140737488351232) :
    Calls Tryd.prog 40 #[.string s] w fun e w' => e = .returned (.string s) ∧ Below w.heap.size w w' := by
  have H := Lib.hid (sclone_any s w hs)
  go_enter Tryd.func40, Tryd.ntmps40
  go_wp2_with fail
  refine H.out.mono ?_
  rintro e w1 ⟨rfl, hb⟩
  go_wp2_with fail
  go_ret
  exact ⟨rfl, hb⟩

/-- Bytes in a block of their own. -/
def Bts (w : World) (g : Nat) (bs : List UInt8) : Prop := ∀ (j : Nat) (x : UInt8), bs[j]? = some x → w.cell? ⟨g, j, none⟩ = some (.int .u8 (x.toNat : Int))

theorem Bts.conv {w : World} {g n : Nat} {bs : List UInt8} (h : Bts w g bs) (hn : bs.length = n) :
    (convert 57 9 (.slice (some ⟨g, 0, none⟩) n n)).run Tryd.prog w = .ok (.string ⟨bs.toArray⟩) w := by
  subst hn
  refine run_convert_bytes_back (P := Tryd.prog) w 57 9 5 ⟨g, 0, none⟩ _ bs Tryd.underlying57 Tryd.underlying5 Tryd.underlying9 (fun j hj => ?_)
  rw [Addr.add_mid, Nat.zero_add]
  exact h j _ (List.getElem?_eq_getElem hj)

set_option maxRecDepth 20000 in
theorem begins_any (w : World) (b p : Nat) (s : ByteArray) (h : Scn w b p s) (hp : p ≤ s.size) (g n : Nat) (bs : List UInt8) (hn : bs.length = n) (hB : Bts w g bs) :
    Calls Tryd.prog 31 #[.pointer (some ⟨b, 0, none⟩), .slice (some ⟨g, 0, none⟩) n n] w fun e w' => e = .returned (.bool (bs.isPrefixOf (s.data.toList.drop p))) ∧ ∃ m, w' = w.drewN m := by
  have HS := Lib.hid h
  have HB := Lib.hid (fun k => (show Bts (w.drewN k) g bs from hB).conv hn)
  have hconv := HB.out
  have hconv0 := HB.out 0
  have HX := Lib.hid (extract_drop s p)
  clear h hn hB
  go_enter Tryd.func31, Tryd.ntmps31
  go_wp2_with fail
  go_quiet (first | (go_at_call 33; exact Calls.quiet_of (rest_any _ b p s HS.out hp)) | (go_at_call 38; exact Calls.quiet_of_same (prefix_any _ _ _)))
  go_wp2_with fail
  go_ret
  exact ⟨by rw [← HX.out]; rfl, _, rfl⟩

end Go.Proofs.YtkbfbcfgjgpfgaaDoor
