/-
  The law ScanNames: its walk.
-/
import Derived.Test.YtkbfbcfgjgpfgaaDoorScCuts
import Derived.Test.YtkbfbcfgjgpfgaaDoorScWo
import Derived.Deep.RegionHeld3
namespace Go.Proofs.YtkbfbcfgjgpfgaaDoor
open Go.RowKit

/-- A block whose cells are the keywords from k on. -/
def KwFrom (w : World) (g k : Nat) : Prop := ∃ cur t, w.heap[g]? = some (.cells cur t (0, 0)) ∧ cur.size = 16 ∧ ∀ j, k ≤ j → cur[j]? = kwVals.toArray[j]?

theorem KwB.from {w : World} {g : Nat} (h : KwB w g) : KwFrom w g 0 := by
  obtain ⟨t, h⟩ := h
  exact ⟨_, t, h, rfl, fun _ _ => rfl⟩

theorem KwFrom.cell {w : World} {g k : Nat} (h : KwFrom w g k) {x : List UInt8} (hx : kws[k]? = some x) : w.cell? ⟨g, k, none⟩ = some (txV x) := by
  obtain ⟨cur, t, h, _, hc⟩ := h
  rw [cell_of_row w g k _ _ _ h, hc k (Nat.le_refl _)]
  exact kwVals_get hx

theorem KwFrom.fr {w : World} {g k : Nat} (h : KwFrom w g k) (j : Nat) : w.frozen? ⟨g, j, none⟩ = false := by
  obtain ⟨cur, t, h, _⟩ := h
  exact frozen_of_row w g j cur _ h

theorem KwFrom.set {w : World} {g k : Nat} (h : KwFrom w g k) (u : Value) : KwFrom (w.setCell ⟨g, k, none⟩ u) g (k + 1) := by
  obtain ⟨cur, t, h, hs, hc⟩ := h
  refine ⟨_, t, heap_setCell_same w g k cur t u h, by simpa using hs, fun j hj => ?_⟩
  rw [Array.getElem?_setIfInBounds, if_neg (by omega)]
  exact hc j (by omega)

theorem KwB.cell {w : World} {g k : Nat} (h : KwB w g) {x : List UInt8} (hx : kws[k]? = some x) : w.cell? ⟨g, k, none⟩ = some (txV x) := h.from |> fun h => by
  obtain ⟨cur, t, h, _, hc⟩ := h
  rw [cell_of_row w g k _ _ _ h, hc k (Nat.zero_le _)]
  exact kwVals_get hx

theorem KwB.lt {w : World} {g : Nat} (h : KwB w g) : g < w.heap.size := by
  obtain ⟨t, h⟩ := h
  rcases Nat.lt_or_ge g w.heap.size with h' | h'
  · exact h'
  · rw [Array.getElem?_eq_none h'] at h; cases h

theorem KwB.mv {w w' : World} {g b : Nat} (h : KwB w g) (hb : Mv b w w') (hn : g ≠ b) : KwB w' g := by
  have hl := h.lt
  obtain ⟨t, h⟩ := h
  exact ⟨t, (hb.block hl hn).trans h⟩

theorem KwB.below {w w' : World} {g : Nat} (h : KwB w g) (hb : Below w.heap.size w w') : KwB w' g := by
  have hl := h.lt
  obtain ⟨t, h⟩ := h
  exact ⟨t, (hb.block g hl).trans h⟩

set_option maxHeartbeats 3200000 in
set_option maxRecDepth 20000 in
theorem names_law (s : ByteArray) (w : World) (_hl : s.size ≤ maxLen) (hs : s.size ≤ 140737488351232) (hK : KwAt w) (hE : ErrAt w) :
    Calls Tryd.prog 4 #[.string s] w fun e w' => e = .returned (.bool true) ∧ Below w.heap.size w w' := by
  have H1 := Lib.hid (ssm_any w hK hE)
  have HK := Lib.hid hK
  have HNM := Lib.hid (fun W hK => name_any s W hs hK)
  have HRN := Lib.hid (fun W => rname_any s W hs)
  obtain ⟨d, hd⟩ : ∃ d, isNm s.data.toList = d := ⟨_, rfl⟩
  rw [hd] at HNM HRN
  clear hK hE hd
  go_enter Tryd.func4, Tryd.ntmps4
  go_wp2_with fail
  refine H1.out.mono ?_
  rintro e w1 ⟨rfl, hb⟩
  have HB1 := Lib.hid hb
  have HK1 := Lib.hid (HK.out.below hb)
  clear hb
  go_wp2_with fail
  refine (words_any w1 HK1.out).mono ?_
  rintro e w2 ⟨rfl, hkb, hb⟩
  have HB2 : Hid (Below w.heap.size w w2) := HB1.out.trans (hb.mono HB1.out.size)
  have HK2 := Lib.hid (HK1.out.below hb)
  have HG1 := Lib.hid hkb
  obtain ⟨g1, hg1⟩ : ∃ g, w1.heap.size = g := ⟨_, rfl⟩
  rw [hg1] at HG1 ⊢
  have HL1 : Hid (w.heap.size ≤ g1) := by rw [← hg1]; exact HB1.out.size
  have HNE : Hid (0 ≠ g1) := by have := HK1.out.lt; show _ ≠ _; omega
  clear hb hkb hg1
  go_wp2_with fail
  refine (rwords_any w2).mono ?_
  rintro e w3 ⟨rfl, hw3⟩
  have hb : Below w2.heap.size w2 w3 := by rw [hw3]; exact (Below.refl _ w2).alloc (Nat.le_refl _) _
  have HB3 : Hid (Below w.heap.size w w3) := HB2.out.trans (hb.mono HB2.out.size)
  have HK3 := Lib.hid (HK2.out.below hb)
  have HG1' := Lib.hid (HG1.out.below hb)
  have HG2 : Hid (KwB w3 w2.heap.size) := ⟨_, by rw [hw3]; exact heap_alloc_new w2 _⟩
  have hne : w2.heap.size ≠ g1 := by have := HG1.out.lt; omega
  obtain ⟨g2, hg2⟩ : ∃ g, w2.heap.size = g := ⟨_, rfl⟩
  rw [hg2] at HG2 hne ⊢
  have HN21 := Lib.hid hne
  clear hw3 hb hg2 HG1 HB1 HB2 HK1 HK2 hne
  go_wp2_with fail
  go_loopw [6] (fun iv wr => ∃ k : Nat, k ≤ 16 ∧ iv = .int .i64 k ∧ Hid (KwFrom wr g1 k) ∧ Hid (KwB wr g2) ∧ Hid (KwAt wr) ∧ Hid (Below w.heap.size w wr)) (fun iv _ => 16 - (intOf iv).toNat)
  case atStart => exact ⟨0, Nat.zero_le _, rfl, HG1'.out.from, HG2, HK3, HB3⟩
  case round =>
    obtain ⟨k, hk, rfl, HF, HG, HKA, HB⟩ := hrel
    by_cases hkn : k < 16
    · have hkn' : (k : Int) < 16 := by omega
      obtain ⟨x, hx⟩ : ∃ x, kws[k]? = some x := ⟨_, List.getElem?_eq_getElem (by rw [kw_len]; exact hkn)⟩
      obtain ⟨X, hX⟩ : ∃ X, txV x = .string X := ⟨_, rfl⟩
      have c1 := HF.out.cell hx
      have c2 := HG.out.cell hx
      rw [hX] at c1 c2
      have f1 := HF.out.fr k
      have hb : (X.toList == X.toList) = true := beq_self_eq_true _
      clear hx hX
      go_wp2_with fail
      go_quiet (fail)
      go_wp2_with fail
      go_roundw
      case rel => exact ⟨k + 1, by omega, by go_num, (show KwFrom (wr.drewN _) g1 k from HF.out).set _, (show KwB (wr.drewN _) g2 from HG.out).mv ((Mv.refl g1 _).set _ _) HN21.out, (show KwAt (wr.drewN _) from HKA.out).mv ((Mv.refl g1 _).set _ _) HNE.out, (HB.out.trans ((drewN_below wr _).mono HB.out.size)).setCell (p := ⟨g1, k, none⟩) HL1.out _⟩
      case measure => simp [intOf]; omega
    · have hkn' : ¬ (k : Int) < 16 := by omega
      go_wp2_with fail
      refine (words_any wr HKA.out).mono ?_
      rintro e w4 ⟨rfl, hkb, hb⟩
      have HB4 : Hid (Below w.heap.size w w4) := HB.out.trans (hb.mono HB.out.size)
      have HK4 := Lib.hid (HKA.out.below hb)
      have HG3 := Lib.hid hkb
      have HG4 := Lib.hid (HG.out.below hb)
      obtain ⟨g3, hg3⟩ : ∃ g, wr.heap.size = g := ⟨_, rfl⟩
      rw [hg3] at HG3 ⊢
      clear hkb hb hg3
      have y1 : w4.cell? ⟨g3, 0, none⟩ = some (.string ⟨#[97, 102, 116, 101, 114]⟩) := HG3.out.cell (k := 0) rfl
      have y2 : w4.cell? ⟨g2, 0, none⟩ = some (.string ⟨#[97, 102, 116, 101, 114]⟩) := HG4.out.cell (k := 0) rfl
      have b1 : (d == d) = true := beq_self_eq_true _
      have HNMd := Lib.hid (HNM.out w4.drew HK4.out)
      have HRNd : Hid (Calls Tryd.prog 14 #[.string s] w4.drew fun e w' => e = .returned (.bool d) ∧ w'.cell? ⟨g3, 0, none⟩ = some (.string ⟨#[97, 102, 116, 101, 114]⟩) ∧ w'.cell? ⟨g2, 0, none⟩ = some (.string ⟨#[97, 102, 116, 101, 114]⟩) ∧ Hid (Below w.heap.size w w')) := by
        refine (HRN.out w4.drew).mono ?_
        rintro e w5 ⟨rfl, hb5⟩
        exact ⟨rfl, ((show KwB w4.drew g3 from HG3.out).below hb5).cell (k := 0) rfl, ((show KwB w4.drew g2 from HG4.out).below hb5).cell (k := 0) rfl, HB4.out.trans (Below.trans (show Below w.heap.size w4 w4.drew from ⟨rfl, rfl, rfl, Nat.le_refl _, fun _ _ => rfl⟩) (hb5.mono HB4.out.size))⟩
      go_wp2_with fail
      go_region_held3 (fun W => W.cell? ⟨g3, 0, none⟩ = some (.string ⟨#[97, 102, 116, 101, 114]⟩) ∧ W.cell? ⟨g2, 0, none⟩ = some (.string ⟨#[97, 102, 116, 101, 114]⟩)) (go_keep) (first | (go_at_call 13; refine HNMd.out.mono ?_; rintro e w5 ⟨rfl, rfl⟩) | (go_at_call 14; refine HRNd.out.mono ?_; rintro e w5 ⟨rfl, y3, y4, HB5⟩))
      all_goals
        go_wp2_with fail
        go_ret
        exact ⟨rfl, HB5.out⟩

end Go.Proofs.YtkbfbcfgjgpfgaaDoor
