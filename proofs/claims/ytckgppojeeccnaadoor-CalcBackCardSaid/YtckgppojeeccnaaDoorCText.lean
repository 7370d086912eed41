/-
  Text of calc and of the document; the small case of the laws.
-/
import Derived.Test.YtckgppojeeccnaaDoorRDig
import Derived.Test.YtckgppojeeccnaaDoorRDo
namespace Go.Proofs.YtckgppojeeccnaaDoor
open Go.RowKit

theorem text_any (n : Int) (w : World) (h0 : -9223372036854775808 ≤ n) (h1 : n ≤ 9223372036854775807) (hT : PowTab w) :
    Calls Tryd.prog 16 #[.int .i64 n] w fun e w' => e = .returned (.string ⟨(Lib.itoa n).toArray⟩) ∧ Below w.heap.size w w' := by
  have HT := Lib.hid hT
  clear hT
  go_enter Tryd.func16, Tryd.ntmps16
  go_wp2_with fail
  refine (itoa_any n _ h0 h1 HT.out).mono ?_
  rintro e w1 ⟨rfl, hb⟩
  go_wp2_with fail
  go_ret
  exact ⟨rfl, hb⟩

theorem itoa_neg {n : Int} (h : n < 0) : Lib.itoa n = 45 :: dec0 n.natAbs := by
  unfold Lib.itoa
  rw [if_pos h, dec0_pos (by omega)]

theorem itoa_pos {n : Int} (h : 0 < n) : Lib.itoa n = dec0 n.natAbs := by
  unfold Lib.itoa
  rw [if_neg (by omega), dec0_pos (by omega)]
  congr 1
  omega

theorem rtext_any (n : Int) (w : World) (h0 : -9223372036854775808 ≤ n) (h1 : n ≤ 9223372036854775807) :
    Calls Tryd.prog 17 #[.int .i64 n] w fun e w' => e = .returned (.string ⟨(Lib.itoa n).toArray⟩) ∧ Below w.heap.size w w' := by
  rcases Int.lt_trichotomy n 0 with h | h | h
  · have hl := dec0_length (u := n.natAbs) 19 (by omega)
    have ea : (⟨#[45]⟩ : ByteArray) ++ ⟨(dec0 n.natAbs).toArray⟩ = ⟨(Lib.itoa n).toArray⟩ := by
      rw [itoa_neg h]
      exact append_list [45] _
    have hlen : ¬ 9223372036854775807 < 1 + (dec0 n.natAbs).length := by omega
    have EA := Lib.hid ea
    have HL := Lib.hid hl
    have D := Lib.hid (rdigits_any 19 n.natAbs (by omega) (by omega) (by omega))
    clear ea hl
    go_enter Tryd.func17, Tryd.ntmps17
    go_wp2_with (go_at_call 23; refine (rsize_any _ _ ?_ ?_).mono ?_; assumption; assumption; rintro e w' ⟨rfl, rfl⟩)
    refine (D.out _).mono ?_
    rintro e w1 ⟨rfl, hb⟩
    go_wp2_with fail
    go_ret
    refine ⟨?_, hb⟩
    simp only [Array.getD_eq_getD_getElem?]
    rw [← EA.out]
    rfl
  · subst h
    go_enter Tryd.func17, Tryd.ntmps17
    go_wp2_with fail
    go_ret
    exact ⟨by rw [show Lib.itoa 0 = [48] from by decide +kernel]; rfl, Below.refl _ _⟩
  · have D := Lib.hid (rdigits_any 19 n.natAbs (by omega) (by omega) (by omega))
    have hn : ¬ n < 0 := by omega
    have hn0 : ¬ n = 0 := by omega
    have EA := Lib.hid (itoa_pos h)
    clear h
    go_enter Tryd.func17, Tryd.ntmps17
    go_wp2_with (go_at_call 23; refine (rsize_any _ _ ?_ ?_).mono ?_; assumption; assumption; rintro e w' ⟨rfl, rfl⟩)
    refine (D.out _).mono ?_
    rintro e w1 ⟨rfl, hb⟩
    go_wp2_with fail
    go_ret
    exact ⟨by rw [EA.out]; rfl, hb⟩

/-- The small case: a division, a remainder by 0, a text. -/
theorem small_any (w : World) (hT : PowTab w) :
    Calls Tryd.prog 9 #[] w fun e w' => e = .returned (.bool true) ∧ Below w.heap.size w w' := by
  have HT := Lib.hid hT
  clear hT
  go_enter Tryd.func9, Tryd.ntmps9
  have d1 := do_any 4 (-7) 2 w
  have d2 := do_any 5 1 0 w
  rw [show doN 4 (-7) 2 = -3 from by decide +kernel, show doE 4 2 = 0 from by decide +kernel] at d1
  rw [show doN 5 1 0 = 0 from by decide +kernel, show doE 5 0 = 10 from by decide +kernel] at d2
  have D1 := Lib.hid d1
  have D2 := Lib.hid d2
  clear d1 d2
  go_wp2_with fail
  refine D1.out.mono ?_
  rintro e w1 ⟨rfl, rfl⟩
  go_wp2_with fail
  refine D2.out.mono ?_
  rintro e w1 ⟨rfl, rfl⟩
  go_wp2_with fail
  refine (text_any _ _ (by decide) (by decide) HT.out).mono ?_
  rintro e w1 ⟨rfl, hb⟩
  rw [show Lib.itoa (-10) = [45, 49, 48] from by decide +kernel]
  go_wp2_with fail
  go_ret
  exact ⟨by simp, hb⟩

end Go.Proofs.YtckgppojeeccnaaDoor
