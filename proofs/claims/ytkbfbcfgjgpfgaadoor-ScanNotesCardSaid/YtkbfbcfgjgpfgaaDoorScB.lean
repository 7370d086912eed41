/-
  The scanner: whether what is left begins with one of given bytes; a line's length; a step forward; over the blanks.
-/
import Derived.Test.YtkbfbcfgjgpfgaaDoorScS
namespace Go.Proofs.YtkbfbcfgjgpfgaaDoor
open Go.RowKit

/-- Nothing but block b has turned. -/
def Mv (b : Nat) (w w' : World) : Prop := w.grownBy w' (some b)

theorem Mv.refl (b : Nat) (w : World) : Mv b w w := ⟨rfl, rfl, rfl, Nat.le_refl _, fun _ _ _ => rfl⟩
theorem Mv.trans {b : Nat} {u v w : World} (h : Mv b u v) (k : Mv b v w) : Mv b u w :=
  ⟨k.os.trans h.os, k.tape.trans h.tape, k.output.trans h.output, Nat.le_trans h.size k.size, fun i hi hne => (k.block i (Nat.lt_of_lt_of_le hi h.size) hne).trans (h.block i hi hne)⟩
theorem Mv.of (b : Nat) {w w' : World} (h : Below w.heap.size w w') : Mv b w w' := ⟨h.os, h.tape, h.output, h.size, fun i hi _ => h.block i hi⟩
theorem Mv.set {b : Nat} {w w' : World} (h : Mv b w w') (i : Nat) (v : Value) : Mv b w (w'.setCell ⟨b, i, none⟩ v) :=
  h.trans ⟨rfl, rfl, rfl, by simp [World.setCell], fun k _ hn => Below.heap_setCell _ _ _ _ (fun e => hn (by simpa using e))⟩
theorem Mv.block {b : Nat} {w w' : World} (h : Mv b w w') {i : Nat} (hi : i < w.heap.size) (hne : i ≠ b) : w'.heap[i]? = w.heap[i]? :=
  World.grownBy.block h i hi (by simpa using hne)
/-- Where b is new, all that was there is as it was. -/
theorem Mv.belowB {b B : Nat} {u w w' : World} (h : Mv b w w') (hb : Below B u w) (h1 : B ≤ b) (h2 : B ≤ w.heap.size) : Below B u w' :=
  hb.grown h h2 (fun k e => by injection e with e; omega)

theorem lnK_byte : ∀ l : List UInt8, (if 0 ≤ Lib.indexByte l 10 then Lib.indexByte l 10 else (l.length : Int)) = (lnK l : Int)
  | [] => rfl
  | c :: r => by
    have ih := lnK_byte r
    unfold Lib.indexByte lnK
    by_cases h : c = 10
    · simp [h]
    · have h2 : (c == 10) = false := by simpa using h
      rw [h2, if_neg h]
      simp only [Bool.false_eq_true, if_false, List.length_cons]
      split at ih <;> (rename_i h3; simp_all; try omega)

set_option maxRecDepth 20000 in
theorem line_any (s : ByteArray) (w : World) :
    Calls Tryd.prog 32 #[.string s] w fun e w' => e = .returned (.int .i64 (lnK s.data.toList)) ∧ w = w' := by
  have H := Lib.hid (index_any s 10 w)
  have hl := Lib.hid (lnK_byte s.data.toList)
  rw [show (10 : Int).toNat.toUInt8 = 10 from rfl] at H
  obtain ⟨i, hi⟩ : ∃ i, Lib.indexByte s.data.toList 10 = i := ⟨_, rfl⟩
  rw [hi] at H hl
  clear hi
  go_enter Tryd.func32, Tryd.ntmps32
  go_wp2_with fail
  refine H.out.mono ?_
  rintro e w1 ⟨rfl, rfl⟩
  by_cases h0 : 0 ≤ i
  · have hl2 : Hid (i = (lnK s.data.toList : Int)) := by have := hl.out; rw [if_pos h0] at this; exact this
    go_wp2_with fail
    go_ret
    exact ⟨by rw [← hl2.out]; rfl, rfl⟩
  · have hl2 : Hid ((s.size : Int) = (lnK s.data.toList : Int)) := by have := hl.out; rw [if_neg h0] at this; exact this
    go_wp2_with fail
    go_ret
    exact ⟨by rw [← hl2.out]; rfl, rfl⟩

set_option maxRecDepth 20000 in
theorem adv_any (w : World) (b p n : Nat) (s : ByteArray) (h : Scn w b p s) (hn : p + n ≤ 281474976710656) :
    Calls Tryd.prog 25 #[.pointer (some ⟨b, 0, none⟩), .int .i64 n] w fun e w' => e = .returned (.tuple #[]) ∧ Scn w' b (p + n) s ∧ Mv b w w' := by
  have h0 := h.c0
  have h1 := h.fr 0
  have HS := Lib.hid h
  have hq : (p : Int) + n ≤ 281474976710656 := by omega
  clear h hn
  go_enter Tryd.func25, Tryd.ntmps25
  go_wp2_with fail
  go_end0
  refine ⟨rfl, ?_, (Mv.refl b w).set 0 _⟩
  have e := heap_setCell_same w b 0 _ _ (.int .i64 ((p : Int) + n)) HS.out
  unfold Scn
  rw [Int.natCast_add]
  exact e

set_option maxRecDepth 20000 in
theorem beginsOne_any (w : World) (b p : Nat) (s : ByteArray) (h : Scn w b p s) (hp : p ≤ s.size) (g n : Nat) (bs : List UInt8) (hn : bs.length = n) (hB : Bts w g bs) (hn2 : n ≤ 1000) :
    Calls Tryd.prog 34 #[.pointer (some ⟨b, 0, none⟩), .slice (some ⟨g, 0, none⟩) n n] w fun e w' => e = .returned (.bool (bs.any fun c => [c].isPrefixOf (s.data.toList.drop p))) ∧ Below w.heap.size w w' := by
  have HS := Lib.hid h
  have HN := Lib.hid hn
  have HB := Lib.hid hB
  clear h hn hB
  go_enter Tryd.func34, Tryd.ntmps34
  go_wp2_with fail
  go_loopw [9] (fun i wr => ∃ k : Nat, k ≤ n ∧ Hid (∀ (j : Nat) (x : UInt8), j < k → bs[j]? = some x → [x].isPrefixOf (s.data.toList.drop p) = false) ∧ i = .int .i64 k ∧ Hid (Below w.heap.size w wr)) (fun i _ => n - (intOf i).toNat)
  case atStart => exact ⟨0, Nat.zero_le _, fun j x h => absurd h (Nat.not_lt_zero _), rfl, Below.refl _ _⟩
  case round =>
    obtain ⟨k, hk, HNO, rfl, HBL⟩ := hrel
    by_cases hlt : k < n
    · obtain ⟨x, hx⟩ : ∃ x, bs[k]? = some x := ⟨_, List.getElem?_eq_getElem (by rw [HN.out]; exact hlt)⟩
      have hc : wr.cell? ⟨g, k, none⟩ = some (.int .u8 (x.toNat : Int)) := by
        have h0 := HB.out k x hx
        rw [World.cell?_of_block (w := w) (HBL.out.block g (World.block_lt_of_cell? w _ h0))]
        exact h0
      have HX := Lib.hid hx
      clear hx
      have hlt' : (k : Int) < n := by omega
      obtain ⟨d, hd⟩ : ∃ d, [x].isPrefixOf (s.data.toList.drop p) = d := ⟨_, rfl⟩
      have HBG := Lib.hid (fun (W : World) (hW : W = wr.alloc (.cells #[.int .u8 (x.toNat : Int)] 5)) => begins_any W b p s (by rw [hW]; exact (HS.out.below HBL.out).alloc _) hp wr.heap.size 1 [x] rfl (fun j y hy => by
        match j, hy with
        | 0, hy =>
          injection hy with hy
          subst hy
          rw [hW, cell_of_row _ _ _ _ _ _ (heap_alloc_new wr _)]
          rfl))
      have HBW : Hid (Below w.heap.size w (wr.alloc (.cells #[.int .u8 (x.toNat : Int)] 5))) := HBL.out.alloc HBL.out.size _
      rw [hd] at HBG
      cases d
      · have HR : Hid (∀ (j : Nat) (y : UInt8), j < k + 1 → bs[j]? = some y → [y].isPrefixOf (s.data.toList.drop p) = false) := fun j y hj hy => by
          rcases Nat.lt_succ_iff_lt_or_eq.1 hj with h | rfl
          · exact HNO.out j y h hy
          · rw [HX.out] at hy
            injection hy with hy
            rw [← hy]
            exact hd
        clear hd
        go_wp2_with fail
        refine (HBG.out _ rfl).mono ?_
        rintro e w1 ⟨rfl, m, rfl⟩
        go_wp2_with fail
        exact ⟨⟨k + 1, by omega, HR, by go_num, HBW.out.trans ((drewN_below _ m).mono HBW.out.size)⟩, by simp only [intOf]; omega⟩
      · have HR : Hid ((bs.any fun c => [c].isPrefixOf (s.data.toList.drop p)) = true) := List.any_eq_true.2 ⟨x, List.mem_of_getElem? HX.out, hd⟩
        clear hd
        go_wp2_with fail
        refine (HBG.out _ rfl).mono ?_
        rintro e w1 ⟨rfl, m, rfl⟩
        go_wp2_with fail
        go_ret
        exact ⟨by rw [HR.out]; rfl, HBW.out.trans ((drewN_below _ m).mono HBW.out.size)⟩
    · have hlt' : ¬ (k : Int) < n := by omega
      have HR : Hid ((bs.any fun c => [c].isPrefixOf (s.data.toList.drop p)) = false) := by
        refine List.any_eq_false.2 fun x hx => ?_
        obtain ⟨j, hj⟩ := List.getElem?_of_mem hx
        have := (List.getElem?_eq_some_iff.1 hj).1
        rw [HNO.out j x (by rw [HN.out] at this; omega) hj]
        simp
      go_wp2_with fail
      go_ret
      exact ⟨by rw [HR.out]; rfl, HBL.out⟩

/-- How far a scanner has come. -/
def posOf (w : World) (b : Nat) : Nat := match w.cell? ⟨b, 0, none⟩ with
  | some v => (intOf v).toNat
  | none => 0

theorem Scn.pos {w : World} {b p : Nat} {s : ByteArray} (h : Scn w b p s) : posOf w b = p := by
  unfold posOf
  rw [h.c0]
  simp [intOf]

/-- One step over the blanks: a note, a blank byte, or none. -/
theorem blK_steps (m : List UInt8) :
    ([47, 47].isPrefixOf m = true ∧ 0 < lnK m ∧ blK false m = lnK m + blK false (m.drop (lnK m))) ∨
    ([47, 47].isPrefixOf m = false ∧ ([9, 10, 13, 32].any fun c => [c].isPrefixOf m) = true ∧ 0 < m.length ∧ blK false m = 1 + blK false (m.drop 1)) ∨
    ([47, 47].isPrefixOf m = false ∧ ([9, 10, 13, 32].any fun c => [c].isPrefixOf m) = false ∧ blK false m = 0) := by
  match m with
  | [] => exact .inr (.inr ⟨rfl, rfl, rfl⟩)
  | [c] =>
    by_cases h : isBl c = true
    · refine .inr (.inl ⟨?_, ?_, by simp, ?_⟩)
      · have := isBl_ne h
        simp [List.isPrefixOf]
      · simp only [isBl, Bool.or_eq_true, decide_eq_true_eq] at h
        simp only [List.any_cons, List.any_nil, List.isPrefixOf, Bool.and_true, Bool.or_false, Bool.or_eq_true, beq_iff_eq]
        rcases h with ((h | h) | h) | h <;> simp [h]
      · simp [blK, h, isBl_ne h]
    · refine .inr (.inr ⟨by simp [List.isPrefixOf], ?_, ?_⟩)
      · simp only [isBl, Bool.or_eq_true, decide_eq_true_eq, not_or] at h
        simp only [List.any_cons, List.any_nil, List.isPrefixOf, Bool.and_true, Bool.or_false, Bool.or_eq_false_iff, beq_eq_false_iff_ne, ne_eq]
        exact ⟨fun e => h.1.1.1 e.symm, fun e => h.1.1.2 e.symm, fun e => h.1.2 e.symm, fun e => h.2 e.symm⟩
      · simp [blK, h]
  | c :: d :: r =>
    by_cases h1 : c = 47 ∧ d = 47
    · obtain ⟨rfl, rfl⟩ := h1
      refine .inl ⟨by simp [List.isPrefixOf], by unfold lnK; simp, ?_⟩
      have e1 : lnK (47 :: 47 :: r) = lnK (47 :: r) + 1 := by rw [lnK, if_neg (by decide)]
      have e2 : blK false (47 :: 47 :: r) = blK true (47 :: r) + 1 := by simp [blK]
      rw [e2, blK_note, e1, List.drop_succ_cons]
      omega
    · have hp : [47, 47].isPrefixOf (c :: d :: r) = false := by
        simp only [List.isPrefixOf, Bool.and_true, Bool.and_eq_false_iff, beq_eq_false_iff_ne, ne_eq]
        by_cases h2 : c = 47
        · exact .inr fun e => h1 ⟨h2, e.symm⟩
        · exact .inl fun e => h2 e.symm
      by_cases h : isBl c = true
      · refine .inr (.inl ⟨hp, ?_, by simp, ?_⟩)
        · simp only [isBl, Bool.or_eq_true, decide_eq_true_eq] at h
          simp only [List.any_cons, List.any_nil, List.isPrefixOf, Bool.and_true, Bool.or_false, Bool.or_eq_true, beq_iff_eq]
          rcases h with ((h | h) | h) | h <;> simp [h]
        · simp [blK, h, h1]
          omega
      · refine .inr (.inr ⟨hp, ?_, ?_⟩)
        · simp only [isBl, Bool.or_eq_true, decide_eq_true_eq, not_or] at h
          simp only [List.any_cons, List.any_nil, List.isPrefixOf, Bool.and_true, Bool.or_false, Bool.or_eq_false_iff, beq_eq_false_iff_ne, ne_eq]
          exact ⟨fun e => h.1.1.1 e.symm, fun e => h.1.1.2 e.symm, fun e => h.1.2 e.symm, fun e => h.2 e.symm⟩
        · simp [blK, h, h1]

end Go.Proofs.YtkbfbcfgjgpfgaaDoor
