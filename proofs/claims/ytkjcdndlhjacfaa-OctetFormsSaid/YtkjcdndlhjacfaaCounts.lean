/-
  The law OctetCounts: its walk.
-/
import Derived.Test.YtkjcdndlhjacfaaOwned
import Derived.Test.YtkjcdndlhjacfaaBackW
namespace Go.Proofs.Ytkjcdndlhjacfaa
open Go.RowKit

/-- What an encoder tells: a row of one's own, or nothing, and an error's number. -/
def Coded (w w' : World) (v : Value) (xs : List Int) : Prop := w'.ownsRow w.heap.size 5 1 v xs.length (xs.map (Value.int .u8)) ∧ Below w.heap.size w w'

theorem Coded.nil (w : World) : Coded w w (.slice none 0 0) [] := ⟨World.ownsRow_nil _ _ _ _, Below.refl _ _⟩

def ctCode (n : Int) : Int := if n < 0 then 1 else 0
def ctRow (n : Int) : List Int := if n < 0 then [] else enc n.toNat

theorem uint_all (n : Int) (w : World) (h : n ≤ 9223372036854775807) :
    Calls Try.prog 11 #[.int .i64 n] w fun e w' => ∃ v, e = .returned (.tuple #[v, .int .i64 (ctCode n)]) ∧ Coded w w' v (ctRow n) := by
  by_cases hn : n < 0
  · refine (uint_neg n w hn).mono ?_
    rintro e w' ⟨rfl, rfl⟩
    exact ⟨_, by rw [ctCode, if_pos hn], by rw [ctRow, if_pos hn]; exact Coded.nil w⟩
  · obtain ⟨m, rfl⟩ := Int.eq_ofNat_of_zero_le (by omega : 0 ≤ n)
    refine (uint_pos m w (by omega)).mono ?_
    rintro e w' ⟨g, c, rfl, ho, hb⟩
    exact ⟨_, by rw [ctCode, if_neg hn], by rw [ctRow, if_neg hn]; exact ⟨ho, hb⟩⟩

theorem ruint_all (n : Int) (w : World) (h : n ≤ 9223372036854775807) :
    Calls Try.prog 13 #[.int .i64 n] w fun e w' => ∃ v, e = .returned (.tuple #[v, .int .i64 (ctCode n)]) ∧ Coded w w' v (ctRow n) := by
  by_cases hn : n < 0
  · refine (ruint_neg n w hn).mono ?_
    rintro e w' ⟨rfl, rfl⟩
    exact ⟨_, by rw [ctCode, if_pos hn], by rw [ctRow, if_pos hn]; exact Coded.nil w⟩
  · obtain ⟨m, rfl⟩ := Int.eq_ofNat_of_zero_le (by omega : 0 ≤ n)
    refine (ruint_pos m w (by omega)).mono ?_
    rintro e w' ⟨v, rfl, ⟨g, c, hv, ho⟩, hb⟩
    exact ⟨_, by rw [ctCode, if_neg hn], by rw [ctRow, if_neg hn]; exact ⟨ho, hb⟩⟩

/-- An owned row is in memory of one's own: its block, how many cells. -/
theorem own_slice {w : World} {B : Nat} {e : TypeId} {size : Nat} {v : Value} {n : Nat} {xs : List Value} (h : w.ownsRow B e size v n xs) : ∃ ao l c, v = .slice ao l c := by
  rcases h.2 with ⟨h, _⟩ | ⟨g, cap, cur, h, _⟩
  · exact ⟨_, _, _, h⟩
  · exact ⟨_, _, _, h⟩

theorem ownB_of {w : World} {B : Nat} {v : Value} {n : Nat} {xs : List Value} (h : w.ownsRow B 5 1 v n xs) :
    ∃ g c, OwnB w v g c ∧ (v ≠ .slice none 0 0 → B ≤ g ∧ g < w.heap.size) ∧ c ≤ maxLen := by
  rcases h.2 with ⟨rfl, rfl⟩ | ⟨g, cap, cur, rfl, hb, hg, h3, h4, h5, _⟩
  · exact ⟨0, 0, .inl ⟨rfl, rfl⟩, fun hne => absurd rfl hne, by unfold maxLen; omega⟩
  · exact ⟨g, cap, .inr ⟨n, rfl, h3, cur, hg, by omega⟩, fun _ => ⟨hb, lt_of_block hg⟩, h4⟩

theorem two_cells (W : World) (u v : Value) : ∀ i, i < 2 → (W.alloc (.cells #[u, v] 22)).cell? ⟨W.heap.size, i, none⟩ = some (if i = 0 then u else v) := by
  intro i hi
  rw [cell_of_row _ W.heap.size i _ _ _ (heap_alloc_new W _)]
  match i, hi with
  | 0, _ => rfl
  | 1, _ => rfl

/-- Two rows, one the call's own or nil, the other a block that is known. -/
theorem rows2 {W : World} {B n L gin ga ca : Nat} {va : Value} {xs : List Int} (hb : BlockIs W gin xs) (hl : xs.length = L) (hn : n ≤ L) (hL : L ≤ 9223372036854775807) (hB : B ≤ gin)
    (ha : OwnB W va ga ca) (hga : va ≠ .slice none 0 0 → B ≤ ga ∧ ga < W.heap.size ∧ ga ≠ gin) (hca : ca ≤ 9223372036854775807) :
    Rows4 (W.alloc (.cells #[va, .slice (some ⟨gin, 0, none⟩) n L] 22)) B W.heap.size 2 (fun i => if i = 0 then va else .slice (some ⟨gin, 0, none⟩) n L) (fun i => if i = 0 then ga else gin) (fun i => if i = 0 then ca else L) where
  head := two_cells W _ _
  own := by
    intro i hi
    match i, hi with
    | 0, _ => exact ha.same (fun hne => Below.heap_alloc _ _ _ (hga hne).2.1)
    | 1, _ =>
      refine .inr ⟨n, rfl, hn, (xs.map (Value.int .u8)).toArray, ?_, ?_⟩
      · exact (Below.heap_alloc _ _ _ hb.lt).trans hb
      · simpa using hl
  far := by
    intro i hi hne
    match i, hi with
    | 0, _ => exact ⟨(hga hne).1, Nat.ne_of_lt (hga hne).2.1⟩
    | 1, _ => exact ⟨hB, Nat.ne_of_lt hb.lt⟩
  apart := by
    intro i j hi hj hij h1 h2
    match i, hi, j, hj with
    | 0, _, 1, _ => exact (hga h1).2.2
    | 1, _, 0, _ => exact fun e => (hga h2).2.2 e.symm
    | 0, _, 0, _ => exact absurd rfl hij
    | 1, _, 1, _ => exact absurd rfl hij
  small := by
    intro i hi
    match i, hi with
    | 0, _ => exact hca
    | 1, _ => exact hL

set_option maxHeartbeats 1600000 in
set_option maxRecDepth 20000 in
theorem counts_any (n : Int) (w : World) (a : Option Addr) (len cap : Nat) (bs : List Int) (hn : n ≤ 9223372036854775807) (h : Src w a len cap bs) (hc : len ≤ 140737488351232) :
    Calls Try.prog 3 #[.int .i64 n, .slice a len cap] w fun e w' => e = .returned (.bool true) ∧ Below w.heap.size w w' := by
  have H := Lib.hid h
  have HL := Lib.hid (lent_any w a len cap bs h hc)
  have HN := Lib.hid hn
  clear h hn
  go_enter Try.func3, Try.ntmps3
  go_wp2_with fail
  refine HL.out.mono ?_
  rintro e w1 ⟨rfl, hbk, hb1⟩
  have HBK1 := Lib.hid hbk
  have HB1 := Lib.hid hb1
  clear hbk hb1
  go_wp2_with fail
  refine (uint_all n w1 HN.out).mono ?_
  rintro e w2 ⟨va, rfl, ho2, hb2⟩
  have HO2 := Lib.hid ho2
  have HB2 := Lib.hid (HB1.out.trans (hb2.mono HB1.out.size))
  have HBK2 := Lib.hid (HBK1.out.below hb2 HBK1.out.lt)
  clear ho2 hb2
  have hsrc2 : Hid (Src w2 (some ⟨w.heap.size, 0, none⟩) len (len + 1) bs) := by
    have hs := H.out.size
    have := HBK2.out.src len (by simp; omega) (by simp; omega) (fun x hx => by
      rcases List.mem_append.1 hx with hx | hx
      · exact H.out.bytes x hx
      · rw [List.mem_singleton] at hx; subst hx; exact ⟨by decide, by decide⟩)
    have e1 : (bs ++ [77]).take len = bs := by rw [← hs]; simp
    have e2 : (bs ++ [77]).length = len + 1 := by simp [hs]
    rw [e1, e2] at this
    exact this
  go_wp2_with fail
  refine (takeUint_any w2 _ len (len + 1) bs hsrc2.out).mono ?_
  rintro e w3 ⟨rfl, hb3⟩
  have HB3 := Lib.hid (HB2.out.trans (hb3.mono HB2.out.size))
  have HBK3 := Lib.hid (HBK2.out.below hb3 HBK2.out.lt)
  have HO3 := Lib.hid (ownsRow_below HO2.out hb3 (fun k h => (HO2.out.lt k h).2))
  clear hb3 hsrc2
  go_wp2_with fail
  refine (ruint_all n w3 HN.out).mono ?_
  rintro e w4 ⟨vb, rfl, ho4, hb4⟩
  have HO4 := Lib.hid ho4
  have HB4 := Lib.hid (HB3.out.trans (hb4.mono HB3.out.size))
  have HBK4 := Lib.hid (HBK3.out.below hb4 HBK3.out.lt)
  have HO5 := Lib.hid (ownsRow_below HO3.out hb4 (fun k h => (HO3.out.lt k h).2))
  clear ho4 hb4
  go_wp2_with fail
  refine (rtakeUint_any w4 a len cap bs (H.out.below HB4.out)).mono ?_
  rintro e w5 ⟨rfl, rfl⟩
  go_wp2_with fail
  refine (kept_any w4 _ a len cap bs (H.out.below HB4.out) HBK4.out).mono ?_
  rintro e w5 ⟨rfl, rfl⟩
  have s1 := ownsRow_string HO5.out
  have s2 := ownsRow_string HO4.out
  have s3 := str_self (strOfNums (ctRow n))
  obtain ⟨ga, ca, hob, hga, hca⟩ := ownB_of HO5.out
  obtain ⟨ao, la, ca2, hva⟩ := own_slice HO5.out
  have hR := rows2 (n := len) (L := len + 1) (ga := ga) (ca := ca) (B := w.heap.size) HBK4.out (by simp [H.out.size]) (by omega) (by omega) (Nat.le_refl _) hob
    (fun hne => ⟨by have := (hga hne).1; have := HB1.out.size; omega, (hga hne).2, by have := (hga hne).1; have := HBK1.out.lt; omega⟩) (by unfold maxLen at hca; omega)
  subst hva
  have HR := Lib.hid hR
  have HBR := Lib.hid (HB4.out.alloc HB4.out.size (.cells #[.slice ao la ca2, .slice (some ⟨w.heap.size, 0, none⟩) len (len + 1)] 22))
  clear hR hob hga hca HO5 HO4 HO3 HO2 HBK2 HBK3 HBK4 HBK1 HB1 HB2 HB3
  go_wp2_with fail
  refine (owned_any _ w.heap.size _ 2 2 _ _ _ HR.out (by omega)).mono ?_
  rintro e w6 ⟨rfl, hb6, -⟩
  have HB6 := Lib.hid (HBR.out.trans hb6)
  clear hb6 s1 s2
  go_wp2_with fail
  refine (uint_pos 300 w6 (by decide)).mono ?_
  rintro e w7 ⟨g7, c7, rfl, ho7, hb7⟩
  have s7 := ownsRow_string ho7
  rw [show strOfNums (enc 300) = { data := #[130, 44] } from rfl] at s7
  have HB7 := Lib.hid (HB6.out.trans (hb7.mono HB6.out.size))
  clear ho7 hb7
  go_wp2_with fail
  go_ret
  exact ⟨by simp, HB7.out⟩

theorem counts_walk (a0 : Int) (a1 : Option Addr) (len1 cap1 : Nat) (z1 : List Int) (w : World) (w0 : (Lit.int .i64 a0).wf = true) (w1 : IsRow .u8 w a1 len1 cap1 z1) (s1 : cap1 * 1 ≤ 140737488351232) :
    Calls Try.prog 3 #[.int .i64 a0, .slice a1 len1 cap1] w fun e w' => e = .returned (.bool true) ∧ Below w.heap.size w w' := by
  have hl : len1 ≤ cap1 := by rcases w1 with ⟨_, h, _⟩ | ⟨_, _, h, _⟩ <;> omega
  exact counts_any a0 w a1 len1 cap1 (z1.take len1) (int_range w0).2 (src_of_row w1 s1) (by omega)

end Go.Proofs.Ytkjcdndlhjacfaa
