/-
  The laws CalcTexts, CalcBack: their walks.
-/
import Derived.Test.YtckgppojeeccnaaDoorParsC
import Derived.Test.YtckgppojeeccnaaDoorCDoes
import Derived.Deep.RegionHeld3
namespace Go.Proofs.YtckgppojeeccnaaDoor
open Go.RowKit

/-- What stays: the table; all that was there. -/
structure TS (w W : World) : Prop where
  tab : PowTab W
  below : Below w.heap.size w W

theorem TS.next {w W W' : World} (h : TS w W) (hb : Below W.heap.size W W') : TS w W' :=
  ⟨h.tab.below hb, h.below.trans (hb.mono h.below.size)⟩

theorem ErrAt.below {w w' : World} (h : ErrAt w) (hb : Below w.heap.size w w') : ErrAt w' := by
  obtain ⟨tp, p, hc⟩ := h
  exact ⟨tp, p, by rw [hb.cell (World.block_lt_of_cell? w _ hc)]; exact hc⟩

set_option maxHeartbeats 1600000 in
set_option maxRecDepth 20000 in
theorem texts_walk (n : Int) (s : ByteArray) (w : World) (w0 : (Lit.int .i64 n).wf = true) (_hl : s.size ≤ maxLen) (hs : s.size ≤ 140737488351232) (hT : PowTab w) (hE : ErrAt w) :
    Calls Tryd.prog 5 #[.int .i64 n, .string s] w fun e w' => e = .returned (.bool true) ∧ Below w.heap.size w w' := by
  obtain ⟨a0, a1⟩ := i64_bounds w0
  have D1 := Lib.hid (small_any w hT)
  have D2 := Lib.hid (fun w hE => parse_any s w hs hE)
  have D3 := Lib.hid (fun w => rparse_any s w hs)
  have D4 := Lib.hid (fun w (hT : PowTab w) => text_any n w a0 a1 hT)
  have D5 := Lib.hid (fun w => rtext_any n w a0 a1)
  have HE := Lib.hid hE
  have HT := Lib.hid hT
  clear w0 _hl hs a0 a1 hT hE
  go_enter Tryd.func5, Tryd.ntmps5
  go_wp2_with fail
  refine D1.out.mono ?_
  rintro e w1 ⟨rfl, hb⟩
  have HB1 := Lib.hid hb
  clear hb
  go_wp2_with fail
  refine (D2.out w1 (HE.out.below HB1.out)).mono ?_
  rintro e w2 ⟨rfl, hb⟩
  have HB2 := Lib.hid (HB1.out.trans (hb.mono HB1.out.size))
  clear hb
  go_wp2_with fail
  refine (D3.out w2).mono ?_
  rintro e w3 ⟨rfl, rfl⟩
  have hS : TS w w2 := ⟨HT.out.below HB2.out, HB2.out⟩
  clear HB1 HB2
  go_wp2_with fail
  refine (D4.out w2 hS.tab).mono ?_
  rintro e w3 ⟨rfl, hb⟩
  have hS3 := hS.next hb
  clear hb
  go_wp2_with fail
  refine (D5.out w3).mono ?_
  rintro e w4 ⟨rfl, hb⟩
  have hS4 := hS3.next hb
  clear hb
  go_wp2_with fail
  go_ret
  exact ⟨by simp, hS4.below⟩

set_option maxHeartbeats 1600000 in
set_option maxRecDepth 20000 in
theorem back_walk (n : Int) (s : ByteArray) (w : World) (w0 : (Lit.int .i64 n).wf = true) (_hl : s.size ≤ maxLen) (hs : s.size ≤ 140737488351232) (hT : PowTab w) (hE : ErrAt w) :
    Calls Tryd.prog 8 #[.int .i64 n, .string s] w fun e w' => e = .returned (.bool true) ∧ Below w.heap.size w w' := by
  obtain ⟨a0, a1⟩ := i64_bounds w0
  have D1 := Lib.hid (small_any w hT)
  have D4 := Lib.hid (fun w (hT : PowTab w) => text_any n w a0 a1 hT)
  have HE := Lib.hid hE
  have HT := Lib.hid hT
  have HA := Lib.hid (And.intro a0 a1)
  clear w0 _hl a0 a1 hT hE
  by_cases hlong : 1048576 < s.size
  · have hlong' : (1048576 : Int) < s.size := by omega
    go_enter Tryd.func8, Tryd.ntmps8
    go_wp2_with fail
    refine D1.out.mono ?_
    rintro e w1 ⟨rfl, hb⟩
    have HB1 := Lib.hid hb
    clear hb
    go_wp2_with fail
    go_ret
    exact ⟨rfl, HB1.out⟩
  have hlong' : ¬ (1048576 : Int) < s.size := by omega
  by_cases hdig : ∃ h : 0 < s.size, isDg s[0] = true
  · obtain ⟨h0, hd⟩ := hdig
    have hd0 := isDg_iff.1 hd
    have h0' : (0 : Int) < s.size := by omega
    have hd1 : 48 ≤ (s[0].toNat : Int) := by omega
    have hd2 : (s[0].toNat : Int) ≤ 57 := by omega
    clear hd hd0
    go_enter Tryd.func8, Tryd.ntmps8
    go_wp2_with fail
    refine D1.out.mono ?_
    rintro e w1 ⟨rfl, hb⟩
    have HB1 := Lib.hid hb
    clear hb
    go_wp2_with fail
    go_ret
    exact ⟨rfl, HB1.out⟩
  have hcase : (¬ (0 : Int) < s.size) ∨ ∃ h : 0 < s.size, ((0 : Int) < s.size ∧ ¬ (48 : Int) ≤ (s[0].toNat : Int)) ∨ ((0 : Int) < s.size ∧ (48 : Int) ≤ (s[0].toNat : Int) ∧ ¬ (s[0].toNat : Int) ≤ 57) := by
    by_cases h0 : 0 < s.size
    · refine .inr ⟨h0, ?_⟩
      by_cases h1 : (48 : Int) ≤ (s[0].toNat : Int)
      · refine .inr ⟨by omega, h1, fun h2 => hdig ⟨h0, isDg_of h1 h2⟩⟩
      · exact .inl ⟨by omega, h1⟩
    · exact .inl (by omega)
  have HD := Lib.hid hdig
  clear hdig
  go_enter Tryd.func8, Tryd.ntmps8
  go_wp2_with fail
  refine D1.out.mono ?_
  rintro e w1 ⟨rfl, hb⟩
  have HB1 := Lib.hid hb
  clear hb
  go_upto_region 2 with fail
  go_cut [28] (fun v wx => v = .bool false ∧ wx = w1)
  case first =>
    rcases hcase with h | ⟨h0, ⟨h1, h2⟩ | ⟨h1, h2, h3⟩⟩
    · go_wp2_with fail
      go_meet
      exact ⟨congrArg Value.bool (by simp; omega), rfl⟩
    · go_wp2_with fail
      go_meet
      exact ⟨congrArg Value.bool (by simp; omega), rfl⟩
    · go_wp2_with fail
      go_meet
      exact ⟨congrArg Value.bool (by simp; omega), rfl⟩
  case rest =>
    obtain ⟨rfl, rfl⟩ := hcut
    go_wp2_with fail
    refine (D4.out wc (HT.out.below HB1.out)).mono ?_
    rintro e w2 ⟨rfl, hb⟩
    have HB2 := Lib.hid (HB1.out.trans (hb.mono HB1.out.size))
    clear hb
    obtain ⟨X, hX⟩ : ∃ X : ByteArray, X = ⟨(Lib.itoa n).toArray⟩ := ⟨_, rfl⟩
    rw [← hX]
    have hXl : X.data.toList = Lib.itoa n := by rw [hX]
    have hlen : X.size ≤ 20 := by
      show X.data.toList.length ≤ 20
      rw [hXl]
      unfold Lib.itoa
      split
      · have := dec_len (u := n.natAbs) 18 (by have := HA.out; omega)
        simp
        omega
      · have := dec_len (u := n.toNat) 18 (by have := HA.out; omega)
        omega
    have HXL := Lib.hid hXl
    clear hX hXl
    have hcat : ¬ (9223372036854775807 : Int) < X.size + s.size := by omega
    have hcat' : ¬ 9223372036854775807 < X.size + s.size := by omega
    have hcl : (X ++ s).data.toList = X.data.toList ++ s.data.toList := by simp
    have D2 := Lib.hid (fun w hE => parse_any (X ++ s) w (by rw [ByteArray.size_append]; omega) hE)
    have HCL := Lib.hid hcl
    clear hcl
    have hno : ∀ c r, s.data.toList = c :: r → isDg c = false := by
      intro c r e
      cases hd : isDg c with
      | false => rfl
      | true =>
        refine absurd ?_ HD.out
        have h0 : 0 < s.size := by
          show 0 < s.data.toList.length
          rw [e]; simp
        refine ⟨h0, ?_⟩
        have := head_some h0
        rw [e] at this
        simp only [List.head?_cons, Option.some.injEq] at this
        rw [← this]; exact hd
    by_cases hn : n < 0
    · have hi : Lib.itoa n = 45 :: dec0 n.natAbs := itoa_neg hn
      have hP := sign_parse 45 (dec0 n.natAbs ++ s.data.toList) (by decide)
      have he : (X ++ s).data.toList = 45 :: (dec0 n.natAbs ++ s.data.toList) := by rw [HCL.out, HXL.out, hi]; rfl
      rw [← he] at hP
      have h1 : 1 < X.size := by
        show 1 < X.data.toList.length
        rw [HXL.out, hi, dec0_pos (by omega)]
        have := dec_pos n.natAbs
        simp
        omega
      have h2 : ((X[0].toNat : Int) == 45) = true := by
        have := head_some (s := X) (by omega)
        rw [HXL.out, hi] at this
        simp only [List.head?_cons, Option.some.injEq] at this
        rw [← this]; rfl
      have h1' : (1 : Int) < X.size := by omega
      have HP := Lib.hid hP
      clear hP he hi hno
      go_wp2_with fail
      refine (D2.out w2 (HE.out.below HB2.out)).mono ?_
      rintro e w3 ⟨rfl, hb⟩
      have HB3 := Lib.hid (HB2.out.trans (hb.mono HB2.out.size))
      clear hb
      rw [HP.out.1]
      go_wp2_with fail
      go_ret
      exact ⟨by simp, HB3.out⟩
    · have hi : Lib.itoa n = Lib.decDigits n.toNat := by unfold Lib.itoa; rw [if_neg hn]
      have hP := dec_parse n.toNat s.data.toList (by have := HA.out; omega) hno
      have he : (X ++ s).data.toList = Lib.decDigits n.toNat ++ s.data.toList := by rw [HCL.out, HXL.out, hi]
      rw [← he] at hP
      have hl : (Lib.decDigits n.toNat).length = X.size := by
        show _ = X.data.toList.length
        rw [HXL.out, hi]
      rw [hl] at hP
      have hnn : ((n.toNat : Nat) : Int) = n := by omega
      rw [hnn] at hP
      have HP := Lib.hid hP
      clear hP he hi hl hnn hno
      go_wp2_with fail
      refine (D2.out w2 (HE.out.below HB2.out)).mono ?_
      rintro e w3 ⟨rfl, hb⟩
      have HB3 := Lib.hid (HB2.out.trans (hb.mono HB2.out.size))
      clear hb
      rw [HP.out.1, HP.out.2.1, HP.out.2.2]
      go_wp2_with fail
      go_ret
      exact ⟨by simp, HB3.out⟩

end Go.Proofs.YtckgppojeeccnaaDoor
