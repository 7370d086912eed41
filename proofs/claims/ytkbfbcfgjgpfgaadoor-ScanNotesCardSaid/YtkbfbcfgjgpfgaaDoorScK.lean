/-
  Keywords and names, of scan and of the document.
-/
import Derived.Test.YtkbfbcfgjgpfgaaDoorScW
import Derived.Laws.Rows
namespace Go.Proofs.YtkbfbcfgjgpfgaaDoor
open Go.RowKit

/-- The keywords lie as the initialiser lays them. -/
def KwAt (w : World) : Prop := ∃ t fr, w.heap[0]? = some (.cells kwVals.toArray t fr)

theorem KwAt.below {w w' : World} (h : KwAt w) (hb : Below w.heap.size w w') : KwAt w' := by
  obtain ⟨t, fr, h⟩ := h
  refine ⟨t, fr, ?_⟩
  rw [hb.block _ ?_]
  · exact h
  · rcases Nat.lt_or_ge 0 w.heap.size with h' | h'
    · exact h'
    · rw [Array.getElem?_eq_none h'] at h; cases h

/-- 'a[k]' of the array of keywords by value. -/
theorem idx_kw (cs : Array Value) (k : Nat) (v : Value) (w : World) (hk : k < 16) (hv : cs[k]? = some v) :
    (Instr.index 45 (.agg cs) (.int .i64 (k : Int))).run Tryd.prog w = .ok v w := by
  have hn : (0 : Int) ≤ k ∧ (k : Int) < ((16 : Nat) : Int) := by omega
  have hz : (sizeOf 9).run Tryd.prog w = .ok 1 w := Tryd.sizeOf9 w
  simp [Instr.index, run_underlying Tryd.underlying45, asIntOf, hn, go_sem, hz]
  rw [hv, if_pos hk]
  rfl

theorem kw_len : kws.length = 16 := rfl

set_option maxHeartbeats 400000 in
set_option maxRecDepth 20000 in
theorem isKw_any (s : ByteArray) (w : World) (hK : KwAt w) :
    Calls Tryd.prog 19 #[.string s] w fun e w' => e = .returned (.bool (isKw s.data.toList)) ∧ w = w' := by
  obtain ⟨t, fr, hK⟩ := hK
  obtain ⟨A, hA⟩ : ∃ A, kwVals.toArray = A := ⟨_, rfl⟩
  have hAs : A.size = 16 := by rw [← hA]; rfl
  rw [hA] at hK
  have hsz : (Tryd.prog.info? 45).map (·.size) = some A.size := by rw [hAs]; kernel_rfl
  have HK := Lib.hid hK
  have HSZ := Lib.hid hsz
  have HA := Lib.hid hA
  have HAS := Lib.hid hAs
  clear hA hAs hK hsz
  go_enter Tryd.func19, Tryd.ntmps19
  go_wp2_with (refine wpList_load_row rfl 45 (.global 0) rfl 0 rfl t A fr _ HK.out Tryd.underlying45 rfl HSZ.out ?_)
  go_loop [6] (fun i => ∃ k : Nat, k ≤ 16 ∧ Hid (∀ (j : Nat) (x : List UInt8), j < k → kws[j]? = some x → x ≠ s.data.toList) ∧ i = .int .i64 k) (fun i => 16 - (intOf i).toNat)
  case atStart => exact ⟨0, Nat.zero_le _, fun j x h => absurd h (Nat.not_lt_zero _), rfl⟩
  case round =>
    obtain ⟨k, hk, HNO, rfl⟩ := hrel
    by_cases hlt : k < 16
    · obtain ⟨x, hx⟩ : ∃ x, kws[k]? = some x := ⟨_, List.getElem?_eq_getElem (by rw [kw_len]; exact hlt)⟩
      have hc : A[k]? = some (.string ⟨x.toArray⟩) := by
        rw [← HA.out]
        simp [kwVals, hx]
      have HX := Lib.hid hx
      clear hx
      have hlt' : (k : Int) < 16 := by omega
      obtain ⟨X, hX⟩ : ∃ X : ByteArray, X = ⟨x.toArray⟩ := ⟨_, rfl⟩
      rw [← hX] at hc
      have hidx := idx_kw A k _ w hlt hc
      have hXl : X.data.toList = x := by rw [hX]
      clear hc hX
      by_cases he : x = s.data.toList
      · have hb : (X.toList == s.toList) = true := by
          rw [Lib.toList_data, Lib.toList_data, hXl, he]
          exact beq_self_eq_true _
        have HR := Lib.hid (kw_yes k HX.out he)
        clear he hXl
        go_wp2_with fail
        go_ret
        exact ⟨by rw [HR.out]; rfl, rfl⟩
      · have hb : (X.toList == s.toList) = false := by
          rw [Lib.toList_data, Lib.toList_data, hXl]
          simpa using he
        have HR : Hid (∀ (j : Nat) (y : List UInt8), j < k + 1 → kws[j]? = some y → y ≠ s.data.toList) := fun j y hj hy => by
          rcases Nat.lt_succ_iff_lt_or_eq.1 hj with h | rfl
          · exact HNO.out j y h hy
          · rw [HX.out] at hy
            injection hy with hy
            rw [← hy]
            exact he
        clear he hXl
        go_wp2_with fail
        exact ⟨⟨k + 1, by omega, HR, by go_num⟩, by simp only [intOf]; omega⟩
    · have hlt' : ¬ (k : Int) < 16 := by omega
      have HR := Lib.hid (kw_no (l := s.data.toList) fun i y hi => HNO.out i y (by
        obtain ⟨h, _⟩ := List.getElem?_eq_some_iff.1 hi
        rw [kw_len] at h
        omega) hi)
      go_wp2_with fail
      go_ret
      exact ⟨by rw [HR.out]; rfl, rfl⟩

theorem kwVals_get {k : Nat} {x : List UInt8} (h : kws[k]? = some x) : kwVals.toArray[k]? = some (.string ⟨x.toArray⟩) := by
  simp [kwVals, h]

set_option maxRecDepth 20000 in
theorem rwords_any (w : World) :
    Calls Tryd.prog 12 #[] w fun e w' => e = .returned (.slice (some ⟨w.heap.size, 0, none⟩) 16 16) ∧ w' = w.alloc (.cells kwVals.toArray 9) := by
  go_enter Tryd.func12, Tryd.ntmps12
  go_wp2_with fail
  go_ret
  exact ⟨rfl, rfl⟩

set_option maxHeartbeats 400000 in
set_option maxRecDepth 20000 in
theorem rword_any (s : ByteArray) (w : World) :
    Calls Tryd.prog 21 #[.string s] w fun e w' => e = .returned (.bool (isKw s.data.toList)) ∧ Below w.heap.size w w' := by
  go_enter Tryd.func21, Tryd.ntmps21
  go_wp2_with fail
  refine (rwords_any w).mono ?_
  rintro e w1 ⟨rfl, hw1⟩
  have HB : Hid (Below w.heap.size w w1) := by rw [hw1]; exact (Below.refl _ w).alloc (Nat.le_refl _) _
  obtain ⟨g, hg⟩ : ∃ g, w.heap.size = g := ⟨_, rfl⟩
  have HC : Hid (∀ (k : Nat) (x : List UInt8), kws[k]? = some x → w1.cell? ⟨g, k, none⟩ = some (.string ⟨x.toArray⟩)) := by
    intro k x hx
    rw [cell_of_row w1 g k kwVals.toArray 9 (0, 0) (by rw [hw1, ← hg]; exact heap_alloc_new w _)]
    exact kwVals_get hx
  rw [hg]
  clear hw1 hg
  go_wp2_with fail
  go_loop [4] (fun i => ∃ k : Nat, k ≤ 16 ∧ Hid (∀ (j : Nat) (x : List UInt8), j < k → kws[j]? = some x → x ≠ s.data.toList) ∧ i = .int .i64 k) (fun i => 16 - (intOf i).toNat)
  case atStart => exact ⟨0, Nat.zero_le _, fun j x h => absurd h (Nat.not_lt_zero _), rfl⟩
  case round =>
    obtain ⟨k, hk, HNO, rfl⟩ := hrel
    by_cases hlt : k < 16
    · obtain ⟨x, hx⟩ : ∃ x, kws[k]? = some x := ⟨_, List.getElem?_eq_getElem (by rw [kw_len]; exact hlt)⟩
      have hc := HC.out k x hx
      have HX := Lib.hid hx
      clear hx
      have hlt' : (k : Int) < 16 := by omega
      obtain ⟨X, hX⟩ : ∃ X : ByteArray, X = ⟨x.toArray⟩ := ⟨_, rfl⟩
      rw [← hX] at hc
      have hXl : X.data.toList = x := by rw [hX]
      clear hX
      by_cases he : x = s.data.toList
      · have hb : (X.toList == s.toList) = true := by
          rw [Lib.toList_data, Lib.toList_data, hXl, he]
          exact beq_self_eq_true _
        have HR := Lib.hid (kw_yes k HX.out he)
        clear he hXl
        go_wp2_with fail
        go_ret
        exact ⟨by rw [HR.out]; rfl, HB.out⟩
      · have hb : (X.toList == s.toList) = false := by
          rw [Lib.toList_data, Lib.toList_data, hXl]
          simpa using he
        have HR : Hid (∀ (j : Nat) (y : List UInt8), j < k + 1 → kws[j]? = some y → y ≠ s.data.toList) := fun j y hj hy => by
          rcases Nat.lt_succ_iff_lt_or_eq.1 hj with h | rfl
          · exact HNO.out j y h hy
          · rw [HX.out] at hy
            injection hy with hy
            rw [← hy]
            exact he
        clear he hXl
        go_wp2_with fail
        go_round
        case rel => exact ⟨k + 1, by omega, HR, by go_num⟩
        case measure => simp [intOf]; omega
    · have hlt' : ¬ (k : Int) < 16 := by omega
      have HR := Lib.hid (kw_no (l := s.data.toList) fun i y hi => HNO.out i y (by
        obtain ⟨h, _⟩ := List.getElem?_eq_some_iff.1 hi
        rw [kw_len] at h
        omega) hi)
      go_wp2_with fail
      go_ret
      exact ⟨by rw [HR.out]; rfl, HB.out⟩

/-- A name. -/
def isNm (l : List UInt8) : Bool := !l.isEmpty && decide (l.length ≤ 24) && decide (wsz l = l.length) && !isKw l

set_option maxHeartbeats 400000 in
set_option maxRecDepth 20000 in
theorem name_any (s : ByteArray) (w : World) (hs : s.size ≤ 140737488351232) (hK : KwAt w) :
    Calls Tryd.prog 13 #[.string s] w fun e w' => e = .returned (.bool (isNm s.data.toList)) ∧ w = w' := by
  have H1 := Lib.hid (wordSize_any s w hs)
  have H2 := Lib.hid (isKw_any s w hK)
  have hlen : s.data.toList.length = s.size := rfl
  clear hK
  cases he : s.toList.isEmpty with
  | true =>
    have hn : Hid (isNm s.data.toList = false) := by
      rw [Lib.toList_data] at he
      show isNm _ = false
      simp [isNm, he]
    clear hlen
    go_enter Tryd.func13, Tryd.ntmps13
    go_wp2_with fail
    go_ret
    exact ⟨by rw [hn.out]; rfl, rfl⟩
  | false =>
    have he2 : s.data.toList.isEmpty = false := by rw [← Lib.toList_data]; exact he
    by_cases hl : s.size ≤ 24
    · have hl' : (s.size : Int) ≤ 24 := by omega
      obtain ⟨z, hz⟩ : ∃ z, wsz s.data.toList = z := ⟨_, rfl⟩
      obtain ⟨k, hk⟩ : ∃ k, isKw s.data.toList = k := ⟨_, rfl⟩
      rw [hz] at H1
      rw [hk] at H2
      by_cases hq : z = s.size
      · have hn : Hid (isNm s.data.toList = !k) := by
          show isNm _ = !k
          simp [isNm, he2, hz, hk, hq, hl]
        clear he2 hz hk hlen
        subst hq
        go_enter Tryd.func13, Tryd.ntmps13
        go_wp2_with fail
        refine H1.out.mono ?_
        rintro e w1 ⟨rfl, rfl⟩
        go_wp2_with fail
        refine H2.out.mono ?_
        rintro e w1 ⟨rfl, rfl⟩
        go_wp2_with fail
        go_ret
        exact ⟨by rw [hn.out]; rfl, rfl⟩
      · have hn : Hid (isNm s.data.toList = false) := by
          show isNm _ = false
          simp [isNm, he2, hz, hq]
        have hq' : ((z : Int) == (s.size : Int)) = false := by rw [beq_eq_false_iff_ne]; omega
        clear he2 hz hk hlen hq
        go_enter Tryd.func13, Tryd.ntmps13
        go_wp2_with fail
        refine H1.out.mono ?_
        rintro e w1 ⟨rfl, rfl⟩
        go_wp2_with fail
        go_ret
        exact ⟨by rw [hn.out]; rfl, rfl⟩
    · have hl' : ¬ (s.size : Int) ≤ 24 := by omega
      have hn : Hid (isNm s.data.toList = false) := by
        show isNm _ = false
        simp [isNm, hl]
      clear he2 hlen
      go_enter Tryd.func13, Tryd.ntmps13
      go_wp2_with fail
      go_ret
      exact ⟨by rw [hn.out]; rfl, rfl⟩

theorem wdK_wsz {c : UInt8} {r : List UInt8} : decide (wsz (c :: r) = (c :: r).length) = (isLt c && decide (wdK (c :: r) = (c :: r).length)) := by
  rw [wsz_cons]
  cases h : isLt c
  · simp
  · simp

set_option maxHeartbeats 400000 in
set_option maxRecDepth 20000 in
theorem rname_any (s : ByteArray) (w : World) (hs : s.size ≤ 140737488351232) :
    Calls Tryd.prog 14 #[.string s] w fun e w' => e = .returned (.bool (isNm s.data.toList)) ∧ Below w.heap.size w w' := by
  have hlen : s.data.toList.length = s.size := rfl
  cases he : s.toList.isEmpty with
  | true =>
    have hn : Hid (isNm s.data.toList = false) := by
      rw [Lib.toList_data] at he
      show isNm _ = false
      simp [isNm, he]
    clear hlen
    go_enter Tryd.func14, Tryd.ntmps14
    go_wp2_with fail
    go_ret
    exact ⟨by rw [hn.out]; rfl, Below.refl _ _⟩
  | false =>
    have he2 : s.data.toList.isEmpty = false := by rw [← Lib.toList_data]; exact he
    by_cases hl : s.size ≤ 24
    · have hl' : ¬ (24 : Int) < s.size := by omega
      have hpos : 0 < s.size := by
        rcases Nat.eq_zero_or_pos s.size with h0 | h0
        · have e0 : s.data.toList = [] := List.eq_nil_of_length_eq_zero (by rw [hlen]; exact h0)
          rw [e0] at he2
          cases he2
        · exact h0
      have H1 := Lib.hid (fun w => rrow_any s 0 w hs (Nat.zero_le _))
      have H2 := Lib.hid (rword_any s w)
      have H3 := Lib.hid (rletter_any s[0] w)
      obtain ⟨z, hz⟩ : ∃ z, wdK s.data.toList = z := ⟨_, rfl⟩
      obtain ⟨k, hk⟩ : ∃ k, isKw s.data.toList = k := ⟨_, rfl⟩
      obtain ⟨l, hll⟩ : ∃ l, isLt s[0] = l := ⟨_, rfl⟩
      rw [hll] at H3
      rw [hk] at H2
      rw [List.drop_zero, hz] at H1
      have hn : Hid (isNm s.data.toList = (l && (!k && ((z : Int) == (s.size : Int))))) := by
        show isNm _ = _
        have e1 := wdK_wsz (c := s[0]) (r := s.data.toList.drop 1)
        have e2 : s[0] :: s.data.toList.drop 1 = s.data.toList := by
          rw [← get_list s 0 hpos, List.getElem_cons_drop (by rw [hlen]; exact hpos), List.drop_zero]
        rw [e2, hz, hll, hlen] at e1
        have e3 : ((z : Int) == (s.size : Int)) = decide (z = s.size) := by
          rw [Bool.eq_iff_iff, beq_iff_eq, decide_eq_true_iff]
          omega
        rw [isNm, he2, hlen, e1, hk, e3, decide_eq_true hl]
        cases l <;> cases k <;> simp
      clear he2 hz hk hlen hll
      go_enter Tryd.func14, Tryd.ntmps14
      go_wp2_with fail
      refine H3.out.mono ?_
      rintro e w1 ⟨rfl, rfl⟩
      go_wp2_with fail
      refine H2.out.mono ?_
      rintro e w1 ⟨rfl, hb⟩
      have HB := Lib.hid hb
      clear hb
      cases l
      · go_wp2_with fail
        go_ret
        exact ⟨by rw [hn.out]; rfl, HB.out⟩
      · cases k
        · go_wp2_with fail
          refine (H1.out w1).mono ?_
          rintro e w2 ⟨rfl, rfl⟩
          go_wp2_with fail
          go_ret
          exact ⟨by rw [hn.out]; rfl, HB.out⟩
        · go_wp2_with fail
          go_ret
          exact ⟨by rw [hn.out]; rfl, HB.out⟩
    · have hl' : (24 : Int) < s.size := by omega
      have hn : Hid (isNm s.data.toList = false) := by
        show isNm _ = false
        simp [isNm, hl]
      clear he2 hlen
      go_enter Tryd.func14, Tryd.ntmps14
      go_wp2_with fail
      go_ret
      exact ⟨by rw [hn.out]; rfl, Below.refl _ _⟩

end Go.Proofs.YtkbfbcfgjgpfgaaDoor
