/-
  The document's blanks.
  The document's signs.
  The document's token.
  The document's Tokens.
-/
import Derived.Test.YthgodhojhajahaaGreatDoorXB
namespace Go.Proofs.YthgodhojhajahaaGreatDoor
open Go.RowKit

theorem nat_beq (c : UInt8) (n : Nat) (hn : n < 256) : (((c.toNat : Int) == (n : Int)) = true ↔ c = UInt8.ofNat n) := by
  rw [beq_iff_eq]
  constructor
  · intro h
    apply UInt8.toNat.inj
    rw [UInt8.toNat_ofNat']
    omega
  · rintro rfl
    rw [UInt8.toNat_ofNat']
    omega

theorem blK_cons (c : UInt8) (r : List UInt8) : blK false (c :: r) = if c = 47 ∧ r.head? = some 47 then blK true r + 1 else if isBl c = true then blK false r + 1 else 0 := rfl

theorem lnK_cons (c : UInt8) (r : List UInt8) : lnK (c :: r) = if c = 10 then 0 else lnK r + 1 := rfl

theorem head_drop (s : ByteArray) (q : Nat) : (s.data.toList.drop q).head? = if h : q < s.size then some s[q] else none := by
  by_cases h : q < s.size
  · rw [dif_pos h, drop_cons s q h]; rfl
  · rw [dif_neg h, List.drop_of_length_le (by have e : s.data.toList.length = s.size := rfl; omega)]; rfl

theorem two_no {m : List UInt8} (h : ∀ (j : Nat) (x : List UInt8), j < 7 → twoS[j]? = some x → x ≠ m.take 2) : twoS.contains (m.take 2) = false := by
  cases e : twoS.contains (m.take 2) with
  | false => rfl
  | true =>
    have : m.take 2 ∈ twoS := by simpa using e
    obtain ⟨i, hi⟩ := List.getElem?_of_mem this
    exact absurd rfl (h i _ (by have := (List.getElem?_eq_some_iff.1 hi).1; exact this) hi)

theorem two_size {j : Nat} {x : List UInt8} (h : twoS[j]? = some x) : x.length = 2 := by
  have := List.mem_of_getElem? h
  simp only [twoS, List.mem_cons, List.not_mem_nil, or_false] at this
  rcases this with rfl | rfl | rfl | rfl | rfl | rfl | rfl <;> rfl

theorem sgn_two' {m : List UInt8} (h : twoS.contains (m.take 2) = true) : sgn m = 2 := by unfold sgn; rw [if_pos h]

theorem sgn_one' {c : UInt8} {r : List UInt8} (h : twoS.contains ((c :: r).take 2) = false) : sgn (c :: r) = if oneS.contains c = true then 1 else 0 := by
  unfold sgn
  rw [if_neg (by rw [h]; decide)]

theorem one_no {c : UInt8} (h : ∀ (j : Nat) (x : UInt8), j < 17 → oneS[j]? = some x → x ≠ c) : oneS.contains c = false := by
  cases e : oneS.contains c with
  | false => rfl
  | true =>
    have : c ∈ oneS := by simpa using e
    obtain ⟨i, hi⟩ := List.getElem?_of_mem this
    exact absurd rfl (h i _ (by have := (List.getElem?_eq_some_iff.1 hi).1; exact this) hi)

theorem extract_two (s : ByteArray) (p r : Nat) (hr : p + 2 = r) : (s.extract p r).data.toList = (s.data.toList.drop p).take 2 := by
  rw [ByteArray.data_extract, Array.toList_extract, List.extract_eq_take_drop]
  congr 1
  omega

theorem rows_drewN {g : Nat} {wr : World} (n : Nat) (h : ∀ (j : Nat) (x : List UInt8), twoS[j]? = some x → wr.cell? ⟨g, j, none⟩ = some (txV x)) : ∀ (j : Nat) (x : List UInt8), twoS[j]? = some x → (wr.drewN n).cell? ⟨g, j, none⟩ = some (txV x) := h

/-- What the document's token answers. -/
def rtokR (m : List UInt8) (p : Nat) : Value := .tuple #[if tkE m = 0 then tkV (tkT m p) else tkV noTk, .int .i64 (if tkE m = 0 then (tkS m : Int) else 0), .int .i64 (tkE m)]

theorem extract_text (s : ByteArray) (p n r : Nat) (hr : p + n = r) : (s.extract p r).data.toList = (s.data.toList.drop p).take n := by
  rw [ByteArray.data_extract, Array.toList_extract, List.extract_eq_take_drop]
  congr 1
  omega

theorem txV_of {X : ByteArray} {l : List UInt8} (h : X.data.toList = l) : Value.string X = txV l := by
  unfold txV
  congr 1
  exact ByteArray.ext (Array.toList_inj.1 (by rw [h]))

theorem scA_skip (f p : Nat) (acc : List Tk) (l : List UInt8) : scA (f + 1) p acc l = scA (f + 1) (p + blK false l) acc (l.drop (blK false l)) := by
  have h := blK_rest false l
  rw [scA, scA]
  simp only [h, List.drop_zero, Nat.add_zero]

theorem rtokR_form (m : List UInt8) (q : Nat) : ∃ t : Tk, rtokR m q = .tuple #[.agg #[.int .i64 t.kind, txV t.text, .int .i64 t.num, .int .i64 t.at_], .int .i64 (if tkE m = 0 then (tkS m : Int) else 0), .int .i64 (tkE m)] ∧ t = if tkE m = 0 then tkT m q else noTk := by
  refine ⟨_, ?_, rfl⟩
  rw [rtokR]
  by_cases h : tkE m = 0
  · rw [if_pos h, if_pos h, if_pos h]; rfl
  · rw [if_neg h, if_neg h, if_neg h]; rfl

theorem tkS_pos2 {m : List UInt8} (h0 : m ≠ []) (h : tkE m = 0) : 0 < tkS m := by
  cases m with
  | nil => exact absurd rfl h0
  | cons c r => exact tkS_pos h

end Go.Proofs.YthgodhojhajahaaGreatDoor
