/-
  The scanner: the sign's length.
-/
import Derived.Test.YtkbfbcfgjgpfgaaDoorScT
namespace Go.Proofs.YtkbfbcfgjgpfgaaDoor
open Go.RowKit

set_option maxHeartbeats 1600000 in
set_option maxRecDepth 20000 in
theorem signSize_any (w : World) (b p : Nat) (s : ByteArray) (h : Scn w b p s) (hp : p ≤ s.size) :
    Calls Tryd.prog 42 #[.pointer (some ⟨b, 0, none⟩)] w fun e w' => e = .returned (.int .i64 (sgn (s.data.toList.drop p))) ∧ Below w.heap.size w w' := by
  obtain ⟨m, hm⟩ : ∃ m, s.data.toList.drop p = m := ⟨_, rfl⟩
  have HT := Lib.hid (fun (W : World) (h : Scn W b p s) (hb : Below w.heap.size w W) (x y : UInt8) => sign_try h hb hp x y)
  have HO := Lib.hid (fun (W : World) (h : Scn W b p s) (g n : Nat) (bs : List UInt8) (hn : bs.length = n) (hB : Bts W g bs) (hn2 : n ≤ 1000) => beginsOne_any W b p s h hp g n bs hn hB hn2)
  rw [hm] at HT HO ⊢
  have HS0 := Lib.hid h
  have HB0 : Hid (Below w.heap.size w w) := Below.refl _ _
  have T : ∀ k ∈ twoS, k.isPrefixOf m = true → Hid (sgn m = 2) := fun k hk h => sgn_two (List.any_eq_true.2 ⟨k, hk, h⟩)
  have HTW := Lib.hid T
  clear h hm T
  go_enter Tryd.func42, Tryd.ntmps42
  go_wp2_with fail
  refine (HT.out w HS0.out HB0.out 45 62).mono ?_
  rintro e w1 ⟨rfl, hb, hs⟩
  have HB1 := Lib.hid hb
  have HS1 := Lib.hid hs
  clear hb hs
  by_cases h1 : [45, 62].isPrefixOf m = true
  · have HR := HTW.out _ (by decide) h1
    rw [h1]
    clear h1
    go_wp2_with fail
    go_ret
    exact ⟨by rw [HR.out]; rfl, HB1.out⟩
  have h1 : [45, 62].isPrefixOf m = false := eq_false_of_ne_true h1
  have HN1 := Lib.hid h1
  rw [h1]
  clear h1
  go_wp2_with fail
  refine (HT.out w1 HS1.out HB1.out 60 61).mono ?_
  rintro e w2 ⟨rfl, hb, hs⟩
  have HB2 := Lib.hid hb
  have HS2 := Lib.hid hs
  clear hb hs
  by_cases h1 : [60, 61].isPrefixOf m = true
  · have HR := HTW.out _ (by decide) h1
    rw [h1]
    clear h1
    go_wp2_with fail
    go_ret
    exact ⟨by rw [HR.out]; rfl, HB2.out⟩
  have h1 : [60, 61].isPrefixOf m = false := eq_false_of_ne_true h1
  have HN2 := Lib.hid h1
  rw [h1]
  clear h1
  go_wp2_with fail
  refine (HT.out w2 HS2.out HB2.out 62 61).mono ?_
  rintro e w3 ⟨rfl, hb, hs⟩
  have HB3 := Lib.hid hb
  have HS3 := Lib.hid hs
  clear hb hs
  by_cases h1 : [62, 61].isPrefixOf m = true
  · have HR := HTW.out _ (by decide) h1
    rw [h1]
    clear h1
    go_wp2_with fail
    go_ret
    exact ⟨by rw [HR.out]; rfl, HB3.out⟩
  have h1 : [62, 61].isPrefixOf m = false := eq_false_of_ne_true h1
  have HN3 := Lib.hid h1
  rw [h1]
  clear h1
  go_wp2_with fail
  refine (HT.out w3 HS3.out HB3.out 61 61).mono ?_
  rintro e w4 ⟨rfl, hb, hs⟩
  have HB4 := Lib.hid hb
  have HS4 := Lib.hid hs
  clear hb hs
  by_cases h1 : [61, 61].isPrefixOf m = true
  · have HR := HTW.out _ (by decide) h1
    rw [h1]
    clear h1
    go_wp2_with fail
    go_ret
    exact ⟨by rw [HR.out]; rfl, HB4.out⟩
  have h1 : [61, 61].isPrefixOf m = false := eq_false_of_ne_true h1
  have HN4 := Lib.hid h1
  rw [h1]
  clear h1
  go_wp2_with fail
  refine (HT.out w4 HS4.out HB4.out 33 61).mono ?_
  rintro e w5 ⟨rfl, hb, hs⟩
  have HB5 := Lib.hid hb
  have HS5 := Lib.hid hs
  clear hb hs
  by_cases h1 : [33, 61].isPrefixOf m = true
  · have HR := HTW.out _ (by decide) h1
    rw [h1]
    clear h1
    go_wp2_with fail
    go_ret
    exact ⟨by rw [HR.out]; rfl, HB5.out⟩
  have h1 : [33, 61].isPrefixOf m = false := eq_false_of_ne_true h1
  have HN5 := Lib.hid h1
  rw [h1]
  clear h1
  go_wp2_with fail
  refine (HT.out w5 HS5.out HB5.out 38 38).mono ?_
  rintro e w6 ⟨rfl, hb, hs⟩
  have HB6 := Lib.hid hb
  have HS6 := Lib.hid hs
  clear hb hs
  by_cases h1 : [38, 38].isPrefixOf m = true
  · have HR := HTW.out _ (by decide) h1
    rw [h1]
    clear h1
    go_wp2_with fail
    go_ret
    exact ⟨by rw [HR.out]; rfl, HB6.out⟩
  have h1 : [38, 38].isPrefixOf m = false := eq_false_of_ne_true h1
  have HN6 := Lib.hid h1
  rw [h1]
  clear h1
  go_wp2_with fail
  refine (HT.out w6 HS6.out HB6.out 124 124).mono ?_
  rintro e w7 ⟨rfl, hb, hs⟩
  have HB7 := Lib.hid hb
  have HS7 := Lib.hid hs
  clear hb hs
  by_cases h1 : [124, 124].isPrefixOf m = true
  · have HR := HTW.out _ (by decide) h1
    rw [h1]
    clear h1
    go_wp2_with fail
    go_ret
    exact ⟨by rw [HR.out]; rfl, HB7.out⟩
  have h1 : [124, 124].isPrefixOf m = false := eq_false_of_ne_true h1
  have HN7 := Lib.hid h1
  rw [h1]
  clear h1
  have HNO : Hid (twoS.any (fun k => k.isPrefixOf m) = false) := by
    show _ = false
    simp only [twoS, List.any_cons, List.any_nil, HN1.out, HN2.out, HN3.out, HN4.out, HN5.out, HN6.out, HN7.out, Bool.or_false]
  clear HN1 HN2 HN3 HN4 HN5 HN6 HN7 HTW
  have HOS := Lib.hid (fun (W : World) (hW : W = w7.alloc (.cells (oneS.map fun x => Value.int .u8 (x.toNat : Int)).toArray 5)) => HO.out W (by rw [hW]; exact HS7.out.alloc _) w7.heap.size 17 oneS rfl (by rw [hW]; exact alloc_bts w7 oneS 5) (by omega))
  obtain ⟨d, hd⟩ : ∃ d, (oneS.any fun c => [c].isPrefixOf m) = d := ⟨_, rfl⟩
  rw [hd] at HOS
  have HD := Lib.hid hd
  clear hd HO HT
  go_wp2_with fail
  refine (HOS.out _ rfl).mono ?_
  rintro e w8 ⟨rfl, hb⟩
  have HB8 : Hid (Below w.heap.size w w8) := (HB7.out.alloc HB7.out.size _).trans (hb.mono (by have := HB7.out.size; simp; omega))
  clear hb
  cases d
  · have HR := Lib.hid (sgn_none HNO.out HD.out)
    go_wp2_with fail
    go_ret
    exact ⟨by rw [HR.out]; rfl, HB8.out⟩
  · have HR := Lib.hid (sgn_one HNO.out HD.out)
    go_wp2_with fail
    go_ret
    exact ⟨by rw [HR.out]; rfl, HB8.out⟩

end Go.Proofs.YtkbfbcfgjgpfgaaDoor
