/-
  The law ScanNamed: its walk.
-/
import Derived.Test.YtkbfbcfgjgpfgaaDoorScCuts
import Derived.Test.YtkbfbcfgjgpfgaaDoorScNP
namespace Go.Proofs.YtkbfbcfgjgpfgaaDoor
open Go.RowKit

theorem named_facts {w : World} {B : Nat} {A : Option Addr} {n c : Nat} {X : List Tk} (h : TkRow w B (.slice A n c) X) (hn : n = 2) :
    ∃ g t u T, A = some ⟨g, 0, none⟩ ∧ X = [t, u] ∧ txV t.text = .string T ∧ T.toList = t.text ∧ w.cell? ⟨g, 0, none⟩ = some (.int .i64 t.kind) ∧ w.cell? ⟨g, 1, none⟩ = some (.string T) := by
  have hl := h.len
  match X, (show X.length = 2 by omega) with
  | [t, u], _ =>
    obtain ⟨g, hA, c0, c1, _⟩ := h.reads.2 0 t rfl
    exact ⟨g, t, u, _, hA, rfl, rfl, by rw [Lib.toList_data], by simpa using c0, by simpa [txV] using c1⟩

set_option maxHeartbeats 3200000 in
set_option maxRecDepth 20000 in
theorem named_law (s : ByteArray) (w : World) (_hl : s.size ≤ maxLen) (hs : s.size ≤ 140737488351232) (hK : KwAt w) (hE : ErrAt w) :
    Calls Tryd.prog 5 #[.string s] w fun e w' => e = .returned (.bool true) ∧ Below w.heap.size w w' := by
  have hlen : s.data.toList.length = s.size := rfl
  have hV : Vars w := ⟨hK, hE⟩
  have HV := Lib.hid hV
  have H1 := Lib.hid (ssm_any w hK hE)
  have HNM := Lib.hid (fun W hK => name_any s W hs hK)
  obtain ⟨d, hd⟩ : ∃ d, isNm s.data.toList = d := ⟨_, rfl⟩
  rw [hd] at HNM
  by_cases hl : 16384 < s.size
  · have hl' : (16384 : Int) < s.size := by omega
    obtain rfl : d = false := by
      rw [← hd]
      cases e : isNm s.data.toList with
      | false => rfl
      | true =>
        obtain ⟨_, _, _, _, _, h6, _⟩ := isNm_parts e
        omega
    clear hd hlen hK hE hV
    go_enter Tryd.func5, Tryd.ntmps5
    go_wp2_with fail
    refine H1.out.mono ?_
    rintro e w1 ⟨rfl, hb⟩
    have HN1 := Lib.hid (HNM.out w1 (HV.out.kw.below hb))
    have HB1 := Lib.hid hb
    clear hb
    go_wp2_with fail
    refine HN1.out.mono ?_
    rintro e w2 ⟨rfl, rfl⟩
    go_wp2_with fail
    go_ret
    exact ⟨rfl, HB1.out⟩
  have hl' : ¬ (16384 : Int) < s.size := by omega
  obtain ⟨R, hR⟩ : ∃ R, scF s.data.toList = R := ⟨_, rfl⟩
  have HT := Lib.hid (fun W hV => tokens_vars W s hV R hR)
  cases d with
  | true =>
    have hy := named_yes hd
    rw [hR] at hy
    subst hy
    have hm := named_more hd
    have hl2 := (isNm_parts hd).choose_spec.choose_spec.2.2.2.1
    have HM := Lib.hid (fun W hK => name_any (s ++ ⟨#[95]⟩) W (by rw [ByteArray.size_append]; show s.size + 1 ≤ _; omega) hK)
    have e1 : (s ++ ⟨#[95]⟩ : ByteArray).data.toList = s.data.toList ++ [95] := by simp
    rw [e1, hm, hlen] at HM
    have e2 : decide ((s.size : Int) < 24) = decide (s.size < 24) := by rw [decide_eq_decide]; omega
    have e3 : ¬ (9223372036854775807 : Nat) < s.size + 1 := by omega
    obtain ⟨b, hb⟩ : ∃ b, decide (s.size < 24) = b := ⟨_, rfl⟩
    rw [hb] at HM e2
    have e4 : (b == b) = true := beq_self_eq_true _
    clear hd hlen hK hE hV hR hm e1 hb
    go_enter Tryd.func5, Tryd.ntmps5
    go_wp2_with fail
    refine H1.out.mono ?_
    rintro e w1 ⟨rfl, hb⟩
    have HV1 := Lib.hid (HV.out.below hb)
    have HN1 := Lib.hid (HNM.out w1 HV1.out.kw)
    have HB1 := Lib.hid hb
    clear hb
    go_wp2_with fail
    refine HN1.out.mono ?_
    rintro e w2 ⟨rfl, rfl⟩
    go_wp2_with fail
    refine (HT.out w1 HV1.out).mono ?_
    rintro e w2 ⟨A, c, rfl, hA, hnc, hcm, hr, hb⟩
    obtain ⟨g, t, u, T, rfl, hX, hT1, hT2, y0, y1⟩ := named_facts hr rfl
    simp only [List.cons.injEq, and_true] at hX
    obtain ⟨rfl, rfl⟩ := hX
    have HB2 : Hid (Below w.heap.size w w2) := HB1.out.trans (hb.mono HB1.out.size)
    have HV2 := Lib.hid (HV1.out.below hb)
    have hTs : (T.toList == s.toList) = true := by
      rw [hT2, Lib.toList_data]
      exact beq_self_eq_true _
    have z0 : ∀ o : Obj, (w2.alloc o).cell? ⟨g, 0, none⟩ = some (.int .i64 1) := fun o => by rw [World.cell?_alloc_lt _ _ _ (World.block_lt_of_cell? w2 _ y0)]; exact y0
    have z1 : ∀ o : Obj, (w2.alloc o).cell? ⟨g, 1, none⟩ = some (.string T) := fun o => by rw [World.cell?_alloc_lt _ _ _ (World.block_lt_of_cell? w2 _ y1)]; exact y1
    clear hr hb hA hT1 hT2 y0 y1
    go_wp2_with fail
    have HM2 := Lib.hid (HM.out (w2.alloc (.cells #[.int .i64 0, .int .i64 0] 26)) (HV2.out.kw.below ((Below.refl _ w2).alloc (Nat.le_refl _) _)))
    refine HM2.out.mono ?_
    rintro e w3 ⟨rfl, rfl⟩
    go_wp2_with fail
    go_ret
    exact ⟨rfl, HB2.out.alloc HB2.out.size _⟩
  | false =>
    have hno := named_no (by rw [hlen]; omega) hd
    rw [hR] at hno
    obtain ⟨X, x, a⟩ := R
    obtain ⟨n, hn⟩ : ∃ n, X.length = n := ⟨_, rfl⟩
    simp only at HT hno
    rw [hn] at HT
    have HNO := Lib.hid hno
    clear hd hlen hK hE hV hR hno hn
    go_enter Tryd.func5, Tryd.ntmps5
    go_wp2_with fail
    refine H1.out.mono ?_
    rintro e w1 ⟨rfl, hb⟩
    have HV1 := Lib.hid (HV.out.below hb)
    have HN1 := Lib.hid (HNM.out w1 HV1.out.kw)
    have HB1 := Lib.hid hb
    clear hb
    go_wp2_with fail
    refine HN1.out.mono ?_
    rintro e w2 ⟨rfl, rfl⟩
    go_wp2_with fail
    refine (HT.out w1 HV1.out).mono ?_
    rintro e w2 ⟨A, c, rfl, hA, hnc, hcm, hr, hb⟩
    have HB2 : Hid (Below w.heap.size w w2) := HB1.out.trans (hb.mono HB1.out.size)
    have HRR := Lib.hid hr
    clear hr hb hA
    by_cases hx : x = 0
    · subst hx
      by_cases hn2 : n = 2
      · subst hn2
        obtain ⟨g, t, u, T, rfl, hX, hT1, hT2, y0, y1⟩ := named_facts HRR.out rfl
        have z0 : ∀ o : Obj, (w2.alloc o).cell? ⟨g, 0, none⟩ = some (.int .i64 t.kind) := fun o => by rw [World.cell?_alloc_lt _ _ _ (World.block_lt_of_cell? w2 _ y0)]; exact y0
        have z1 : ∀ o : Obj, (w2.alloc o).cell? ⟨g, 1, none⟩ = some (.string T) := fun o => by rw [World.cell?_alloc_lt _ _ _ (World.block_lt_of_cell? w2 _ y1)]; exact y1
        have HXX := Lib.hid hX
        by_cases hk : t.kind = 1
        · have hk1 : (t.kind == 1) = true := by rw [hk]; rfl
          have hTs : (T.toList == s.toList) = false := by
            rw [hT2, Lib.toList_data, beq_eq_false_iff_ne]
            exact fun e => HNO.out ⟨rfl, t, u, HXX.out, hk, e⟩
          clear hX hT1 hT2 y0 y1 hk
          go_wp2_with fail
          go_ret
          exact ⟨rfl, HB2.out.alloc HB2.out.size _⟩
        · have hk1 : (t.kind == 1) = false := by simpa using hk
          clear hX hT1 hT2 y0 y1 hk
          go_wp2_with fail
          go_ret
          exact ⟨rfl, HB2.out.alloc HB2.out.size _⟩
      · have hn3 : ((n : Int) == 2) = false := by rw [beq_eq_false_iff_ne]; omega
        clear hn2
        go_wp2_with fail
        go_ret
        exact ⟨rfl, HB2.out.alloc HB2.out.size _⟩
    · have hx1 : (x == 0) = false := by simpa using hx
      clear hx
      go_wp2_with fail
      go_ret
      exact ⟨rfl, HB2.out.alloc HB2.out.size _⟩

end Go.Proofs.YtkbfbcfgjgpfgaaDoor
