/-
  Sets of names in maps: a name is added.
-/
import Derived.Test.YthgodhojhajahaaGreatDoorVaC
import Derived.Test.YthgodhojhajahaaGreatDoorVaN
import Derived.Maps.OwnSet
import Derived.Sort.KeysCollected
namespace Go.Proofs.YthgodhojhajahaaGreatDoor
open Go.RowKit Go.Maps

mutual
/-- The names of a kind, as they come. -/
def colP (kd : Int) : GX → List (List UInt8)
  | .mk k _ s _ l _ => (if k = kd then [s] else []) ++ colsP kd l
def colsP (kd : Int) : List GX → List (List UInt8)
  | [] => []
  | x :: l => colP kd x ++ colsP kd l
end

theorem colP_mk (kd k n : Int) (s : List UInt8) (o : Int) (l : List GX) (p : Int) : colP kd (.mk k n s o l p) = (if k = kd then [s] else []) ++ colsP kd l := by rw [colP]
theorem colsP_nil (kd : Int) : colsP kd [] = [] := by rw [colsP]
theorem colsP_cons (kd : Int) (x : GX) (l : List GX) : colsP kd (x :: l) = colP kd x ++ colsP kd l := by rw [colsP]

mutual
theorem mem_colP (kd : Int) (t : List UInt8) : ∀ x : GX, t ∈ colP kd x ↔ hasP kd t x = true
  | .mk k n s o l p => by
    rw [colP_mk, List.mem_append, mem_colsP kd t l, hasP, Bool.or_eq_true, Bool.and_eq_true, decide_eq_true_iff, decide_eq_true_iff]
    by_cases c : k = kd
    · rw [if_pos c, List.mem_singleton]
      constructor
      · rintro (h | h)
        · exact .inl ⟨c, h.symm⟩
        · exact .inr h
      · rintro (h | h)
        · exact .inl h.2.symm
        · exact .inr h
    · rw [if_neg c]
      constructor
      · rintro (h | h)
        · cases h
        · exact .inr h
      · rintro (h | h)
        · exact absurd h.1 c
        · exact .inr h
theorem mem_colsP (kd : Int) (t : List UInt8) : ∀ l : List GX, t ∈ colsP kd l ↔ hassP kd t l = true
  | [] => by rw [colsP_nil, hassP]; simp
  | x :: l => by rw [colsP_cons, List.mem_append, mem_colP kd t x, mem_colsP kd t l, hassP, Bool.or_eq_true]
end

mutual
theorem colP_rng (kd : Int) : ∀ x : GX, x.rng → ∀ s ∈ colP kd x, s.length ≤ 140737488351232
  | .mk k n s o l p, h, t, ht => by
    rw [GX.rng] at h
    rw [colP_mk, List.mem_append] at ht
    rcases ht with ht | ht
    · split at ht
      · rw [List.mem_singleton] at ht
        rw [ht]
        exact h.2.2.1
      · cases ht
    · exact colsP_rng kd l h.2.2.2 t ht
theorem colsP_rng (kd : Int) : ∀ l : List GX, GX.rngs l → ∀ s ∈ colsP kd l, s.length ≤ 140737488351232
  | [], _, t, ht => by rw [colsP_nil] at ht; cases ht
  | x :: l, h, t, ht => by
    rw [GX.rngs] at h
    rw [colsP_cons, List.mem_append] at ht
    rcases ht with ht | ht
    · exact colP_rng kd x h.1 t ht
    · exact colsP_rng kd l h.2 t ht
end

theorem strLaw : Keyed Tryz.prog 9 := string_keyed Tryz.underlying9

/-- A map that is the set of these names. -/
def SetAt (w : World) (b : Nat) (acc : List (List UInt8)) : Prop := w.ownsMap Tryz.prog 9 (unitElem (H := Unit)) b acc.length (setOf (H := Unit) (.agg []) (acc.map Lit.string))

theorem SetAt.lt {w : World} {b : Nat} {acc : List (List UInt8)} (h : SetAt w b acc) : b < w.heap.size := World.ownsMap.lt h
theorem SetAt.kept {w w' : World} {b : Nat} {acc : List (List UInt8)} {row : Option Nat} (h : SetAt w b acc) (hg : w.grownBy w' row) (hne : some b ≠ row) : SetAt w' b acc := World.ownsMap.kept h hg hne
theorem SetAt.alloc {w : World} {b : Nat} {acc : List (List UInt8)} (h : SetAt w b acc) (o : Obj) : SetAt (w.alloc o) b acc := World.ownsMap.alloc h o
theorem SetAt.below {w w' : World} {b : Nat} {acc : List (List UInt8)} (h : SetAt w b acc) (hb : Below w.heap.size w w') : SetAt w' b acc := by
  obtain ⟨es, clock, h1, h2⟩ := h
  exact ⟨es, clock, (hb.block b (Array.getElem?_eq_some_iff.1 h1).1).trans h1, h2⟩
theorem SetAt.new (w : World) : SetAt (w.alloc (.map #[] 0)) w.heap.size [] := World.ownsMap_made w _ _ _

/-- Two blocks may turn. -/
def Kp (b1 b2 : Nat) (w w' : World) : Prop := w'.os = w.os ∧ w'.tape = w.tape ∧ w'.output = w.output ∧ w.heap.size ≤ w'.heap.size ∧ ∀ i, i < w.heap.size → i ≠ b1 → i ≠ b2 → w'.heap[i]? = w.heap[i]?

theorem Kp.refl (b1 b2 : Nat) (w : World) : Kp b1 b2 w w := ⟨rfl, rfl, rfl, Nat.le_refl _, fun _ _ _ _ => rfl⟩
theorem Kp.trans {b1 b2 : Nat} {a b c : World} (h : Kp b1 b2 a b) (h' : Kp b1 b2 b c) : Kp b1 b2 a c :=
  ⟨h'.1.trans h.1, h'.2.1.trans h.2.1, h'.2.2.1.trans h.2.2.1, Nat.le_trans h.2.2.2.1 h'.2.2.2.1, fun i hi h1 h2 => (h'.2.2.2.2 i (by have := h.2.2.2.1; omega) h1 h2).trans (h.2.2.2.2 i hi h1 h2)⟩
theorem Kp.of_below {b1 b2 : Nat} {w w' : World} (h : Below w.heap.size w w') : Kp b1 b2 w w' := ⟨h.os, h.tape, h.output, h.size, fun i hi _ _ => h.block i hi⟩
theorem Kp.of_grown {b1 b2 : Nat} {w w' : World} {b : Nat} (h : w.grownBy w' (some b)) (hb : b = b1 ∨ b = b2) : Kp b1 b2 w w' :=
  ⟨h.os, h.tape, h.output, h.size, fun i hi h1 h2 => h.block i hi (fun e => by injection e with e; rcases hb with hb | hb <;> omega)⟩
theorem Kp.size {b1 b2 : Nat} {w w' : World} (h : Kp b1 b2 w w') : w.heap.size ≤ w'.heap.size := h.2.2.2.1
theorem Kp.block {b1 b2 : Nat} {w w' : World} (h : Kp b1 b2 w w') {i : Nat} (hi : i < w.heap.size) (h1 : i ≠ b1) (h2 : i ≠ b2) : w'.heap[i]? = w.heap[i]? := h.2.2.2.2 i hi h1 h2
theorem Kp.toBelow {b1 b2 B : Nat} {w w' : World} (h : Kp b1 b2 w w') (hB : B ≤ w.heap.size) (h1 : B ≤ b1) (h2 : B ≤ b2) : Below B w w' := ⟨h.1, h.2.1, h.2.2.1, h.2.2.2.1, fun i hi => h.block (by omega) (by omega) (by omega)⟩

theorem barr_len (s : ByteArray) : s.data.toList.length = s.size := by rw [Array.length_toList]; rfl

set_option maxHeartbeats 400000 in
set_option maxRecDepth 20000 in
theorem add_any (w : World) (b : Nat) (acc : List (List UInt8)) (s : ByteArray) (hM : SetAt w b acc) (hn : acc.length < maxLen) (hs : s.size ≤ maxLen) :
    Calls Tryz.prog 38 #[.map (some b), .string s] w fun e w' => e = .returned (.tuple #[]) ∧ SetAt w' b (acc ++ [s.data.toList]) ∧ w.grownBy w' (some b) := by
  have HM := Lib.hid hM
  have HN := Lib.hid hn
  have HK := Lib.hid (Go.WideMaps.keyOf_string_mk (P := Tryz.prog) Tryz.underlying9 hs)
  clear hM hn hs
  go_enter Tryz.func38, Tryz.ntmps38
  go_wp2_with (first | (at_mapUpdate; refine wpList_mapUpdate_own _ rfl _ _ _ 55 rfl 9 89 strLaw Tryz.underlying55 (unitElem (H := Unit)) b acc.length _ rfl HM.out HN.out _ _ _ rfl rfl HK.out _ [] unitElem_mk ?_) | go_in)
  intro w1 hown hgrow
  have h1 : Hid (SetAt w1 b (acc ++ [s.data.toList])) := by
    show World.ownsMap _ _ _ _ _ _ _
    rw [List.map_append, List.map_singleton, setOf_snoc, List.length_append]
    exact hown
  have h2 := Lib.hid hgrow
  clear hown hgrow
  go_wp2_with fail
  go_end0
  exact ⟨rfl, h1.out, h2.out⟩

end Go.Proofs.YthgodhojhajahaaGreatDoor
