/-
  The law SealTurned: its walk.
-/
import Derived.Test.YtgiepkiogjkjjaaSBack
namespace Go.Proofs.Ytgiepkiogjkjjaa
open Go.RowKit

theorem set_split (l : List Int) (i : Nat) (y : Int) (h : i < l.length) : l.set i y = l.take i ++ y :: l.drop (i + 1) := by
  rw [List.set_eq_take_append_cons_drop, if_pos h]

theorem self_split (l : List Int) (i : Nat) (h : i < l.length) : l = l.take i ++ l.getD i 0 :: l.drop (i + 1) := by
  have e := set_split l i (l.getD i 0) h
  rw [← e]
  apply List.ext_getElem?
  intro j
  by_cases hj : i = j
  · subst hj
    simp [List.getD, h]
  · rw [List.getElem?_set_ne hj]

/-- A byte behind the length that is another one is told. -/
theorem opF_turned (bs : List Int) (hl : bs.length ≤ 1048576) (hx : ∀ x ∈ bs, 0 ≤ x ∧ x < 256) (k : Nat) (y : Int) (hk1 : (enc bs.length).length ≤ k) (hk2 : k < (frame bs).length) (hy : 0 ≤ y ∧ y < 256) (hne : y ≠ (frame bs).getD k 0) :
    opF ((frame bs).set k y) = ([], 0, 5) := by
  obtain ⟨E, hE⟩ : ∃ E, E = (enc bs.length).length := ⟨_, rfl⟩
  obtain ⟨c, hc⟩ : ∃ c, c = crcN (enc bs.length ++ bs) := ⟨_, rfl⟩
  have hcl : c < 4294967296 := by rw [hc]; exact crcN_lt _
  have hfr : frame bs = enc bs.length ++ (bs ++ be4 c) := by rw [hc, frame, List.append_assoc]
  have hln : (frame bs).length = E + bs.length + 4 := by rw [hE, frame_length]
  obtain ⟨j, rfl⟩ : ∃ j, k = E + j := ⟨k - E, by omega⟩
  have hset : (frame bs).set (E + j) y = enc bs.length ++ (bs ++ be4 c).set j y := by
    rw [hfr, List.set_append_right _ _ (by omega), hE, Nat.add_sub_cancel_left]
  have hgd : (frame bs).getD (E + j) 0 = (bs ++ be4 c).getD j 0 := by
    rw [hfr, hE]
    simp only [List.getD]
    rw [List.getElem?_append_right (by omega), Nat.add_sub_cancel_left]
  rw [hgd] at hne
  rw [hset]
  have ht : tkF M63 true 0 0 (enc bs.length ++ (bs ++ be4 c).set j y) = (bs.length, E, 0) := by
    rw [take_back _ (by unfold M63; omega), ← hE]
    simp
  unfold opF
  rw [ht]
  simp only []
  rw [if_neg (by simp), if_neg (by omega), if_neg (by simp [be4_length]; omega)]
  refine if_neg ?_
  by_cases hj : j < bs.length
  · have e1 : (bs ++ be4 c).set j y = bs.set j y ++ be4 c := List.set_append_left _ _ hj
    have e2 : (enc bs.length ++ (bs.set j y ++ be4 c)).drop (E + bs.length) = be4 c := by
      rw [← List.append_assoc]
      have hlen : E + bs.length = (enc bs.length ++ bs.set j y).length := by simp [hE]
      rw [hlen, List.drop_left]
    have e3 : (enc bs.length ++ (bs.set j y ++ be4 c)).take (E + bs.length) = enc bs.length ++ bs.set j y := by
      rw [← List.append_assoc]
      have hlen : E + bs.length = (enc bs.length ++ bs.set j y).length := by simp [hE]
      rw [hlen, List.take_left]
    have e4 : (be4 c).take 4 = be4 c := rfl
    rw [e1, e2, e3, e4]
    intro e
    have e5 := be4_inj hcl (crcN_lt _) e
    have hgd2 : (bs ++ be4 c).getD j 0 = bs.getD j 0 := by simp [List.getD, List.getElem?_append_left hj]
    rw [hgd2] at hne
    have hd : enc bs.length ++ bs.set j y = (enc bs.length ++ bs.take j) ++ y :: bs.drop (j + 1) := by rw [set_split bs j y hj, List.append_assoc]
    have hd2 : enc bs.length ++ bs = (enc bs.length ++ bs.take j) ++ bs.getD j 0 :: bs.drop (j + 1) := by
      rw [List.append_assoc]
      exact congrArg (fun l => enc bs.length ++ l) (self_split bs j hj)
    rw [hc, hd, hd2] at e5
    refine crcN_turned (fun x hm => ?_) (fun x hm => hx x (List.mem_of_mem_drop hm)) ?_ hy (fun h => hne h.symm) e5
    · rcases List.mem_append.1 hm with hm | hm
      · exact enc_range _ x hm
      · exact hx x (List.mem_of_mem_take hm)
    · exact hx _ (by simp [List.getD, List.getElem?_eq_getElem hj])
  · obtain ⟨i, rfl⟩ : ∃ i, j = bs.length + i := ⟨j - bs.length, by omega⟩
    have hi : i < 4 := by omega
    have e1 : (bs ++ be4 c).set (bs.length + i) y = bs ++ (be4 c).set i y := by
      rw [List.set_append_right _ _ (by omega), Nat.add_sub_cancel_left]
    have hlen : E + bs.length = (enc bs.length ++ bs).length := by simp [hE]
    have e2 : (enc bs.length ++ (bs ++ (be4 c).set i y)).drop (E + bs.length) = (be4 c).set i y := by
      rw [← List.append_assoc, hlen, List.drop_left]
    have e3 : (enc bs.length ++ (bs ++ (be4 c).set i y)).take (E + bs.length) = enc bs.length ++ bs := by
      rw [← List.append_assoc, hlen, List.take_left]
    have e4 : ((be4 c).set i y).take 4 = (be4 c).set i y := List.take_of_length_le (by simp [be4_length])
    have hgd2 : (bs ++ be4 c).getD (bs.length + i) 0 = (be4 c).getD i 0 := by
      simp only [List.getD]
      rw [List.getElem?_append_right (by omega), Nat.add_sub_cancel_left]
    rw [hgd2] at hne
    rw [e1, e2, e3, e4, ← hc]
    intro e
    apply hne
    have e5 := congrArg (fun l => l.getD i 0) e
    simp only [List.getD] at e5
    rw [List.getElem?_set_self (by rw [be4_length]; exact hi)] at e5
    simpa [List.getD] using e5

theorem xor_byte (x b : Int) (hx : 0 ≤ x ∧ x < 256) (hb : 0 ≤ b ∧ b < 256) (h0 : b ≠ 0) : ∃ y, bits .xor .u8 x b = y ∧ (0 ≤ y ∧ y < 256) ∧ y ≠ x := by
  obtain ⟨m, rfl⟩ := Int.eq_ofNat_of_zero_le hx.1
  obtain ⟨n, rfl⟩ := Int.eq_ofNat_of_zero_le hb.1
  refine ⟨_, u8_xor_nat m n (by omega) (by omega), ?_, ?_⟩
  · have : m ^^^ n < 2 ^ 8 := Nat.xor_lt_two_pow (by omega) (by omega)
    omega
  · intro e
    have e1 : m ^^^ n = m := by exact_mod_cast e
    have e2 : n ^^^ m = 0 ^^^ m := by rw [Nat.xor_comm, e1, Nat.zero_xor]
    have := xor_can e2
    omega

set_option maxHeartbeats 3200000 in
set_option maxRecDepth 20000 in
theorem turned_any (w : World) (a : Option Addr) (len cap : Nat) (bs : List Int) (t b : Int) (h : Src w a len cap bs) (hnil : a = none → cap = 0) (ht : t ≤ 9223372036854775807) (hb : 0 ≤ b ∧ b < 256) :
    Calls Try.prog 8 #[.slice a len cap, .int .i64 t, .int .u8 b] w fun e w' => e = .returned (.bool true) ∧ Below w.heap.size w w' := by
  by_cases h1 : 2097152 < len
  · have h1' : (2097152 : Int) < len := by omega
    go_enter Try.func8, Try.ntmps8
    go_wp2_with fail
    go_ret
    exact ⟨rfl, Below.refl _ _⟩
  have h1' : ¬ (2097152 : Int) < len := by omega
  by_cases hl : len ≤ 1048576
  rotate_left
  · have hl' : (1048576 : Int) < len := by omega
    go_enter Try.func8, Try.ntmps8
    go_wp2_with fail
    refine (close_long w a len cap (by omega)).mono ?_
    rintro e w1 ⟨rfl, rfl⟩
    go_wp2_with fail
    go_ret
    exact ⟨rfl, Below.refl _ _⟩
  have hfl := frame_length bs
  have hep := enc_length_pos bs.length
  have hel := enc_length bs.length (by have := h.size; omega)
  rw [h.size] at hfl
  have HCS := Lib.hid (close_short w a len cap bs h hnil hl)
  have HFR := Lib.hid (frame_range h.bytes)
  have HTN := Lib.hid (fun k y h1 h2 h3 h4 => opF_turned bs (by rw [h.size]; exact hl) h.bytes k y h1 h2 h3 h4)
  have HSZ := Lib.hid h.size
  clear h hnil
  obtain ⟨F, hF⟩ : ∃ F, F = frame bs := ⟨_, rfl⟩
  rw [← hF] at HCS HFR HTN hfl
  clear hF
  obtain ⟨E, hE⟩ : ∃ E, E = (enc bs.length).length := ⟨_, rfl⟩
  rw [HSZ.out] at hep hel hE HTN
  rw [← hE] at hfl hep hel HTN
  clear hE
  obtain ⟨L, hL⟩ : ∃ L, L = F.length := ⟨_, rfl⟩
  have hlf : ¬ (L : Int) < len + 5 := by omega
  by_cases ht0 : t < 0
  · go_enter Try.func8, Try.ntmps8
    go_wp2_with fail
    refine HCS.out.mono ?_
    rintro e w1 ⟨v1, rfl, ⟨g, c, rfl, ho⟩, hb1⟩
    have HB1 := Lib.hid hb1
    clear hb1 ho
    rw [← hL]
    clear hfl hL
    go_wp2_with fail
    go_ret
    exact ⟨rfl, HB1.out⟩
  obtain ⟨t, rfl⟩ := Int.eq_ofNat_of_zero_le (by omega : 0 ≤ t)
  by_cases hb0 : b = 0
  · subst hb0
    go_enter Try.func8, Try.ntmps8
    go_wp2_with fail
    refine HCS.out.mono ?_
    rintro e w1 ⟨v1, rfl, ⟨g, c, rfl, ho⟩, hb1⟩
    have HB1 := Lib.hid hb1
    clear hb1 ho
    rw [← hL]
    clear hfl hL
    go_wp2_with fail
    go_ret
    exact ⟨rfl, HB1.out⟩
  obtain ⟨m, hm⟩ : ∃ m, m = t % (len + 4) := ⟨_, rfl⟩
  have hml : m < len + 4 := by rw [hm]; exact Nat.mod_lt _ (by omega)
  obtain ⟨k, hk⟩ : ∃ k, k = L - 1 - m := ⟨_, rfl⟩
  have hkE : E ≤ k := by omega
  have hkL : k < L := by omega
  have hLb : L ≤ 2000000 := by omega
  have hmL : m + 1 ≤ L := by omega
  obtain ⟨y, hy, hyr, hyn⟩ := xor_byte (F.getD k 0) b (HFR.out _ (by rw [hL] at hkL; simp [List.getD, List.getElem?_eq_getElem hkL])) hb hb0
  have HT := Lib.hid (HTN.out k y hkE (by rw [← hL]; exact hkL) hyr hyn)
  have hm' : (t : Int) % ((len : Int) + 4) = (m : Int) := by rw [hm]; simp
  have hk' : (L : Int) - 1 - (m : Int) = (k : Int) := by omega
  have hbb : (b == 0) = false := by rw [beq_eq_false_iff_ne]; exact hb0
  obtain ⟨x, hx⟩ : ∃ x, x = F.getD k 0 := ⟨_, rfl⟩
  rw [← hx] at hy
  have HX := Lib.hid hx
  have HY := Lib.hid hyr
  have HL := Lib.hid hL
  clear hm hml hk hx hyr hyn HTN hb0 ht0 hfl hL hkE
  go_enter Try.func8, Try.ntmps8
  go_wp2_with fail
  refine HCS.out.mono ?_
  rintro e w1 ⟨v1, rfl, ⟨g, c, rfl, ho⟩, hb1⟩
  have HB1 := Lib.hid hb1
  rw [← HL.out] at ho ⊢
  have hcell : w1.cell? ⟨g, k, none⟩ = some (.int .u8 x) := by
    rw [ho.cellAt k (by omega), HX.out, List.getElem?_map]
    have := HL.out
    rw [List.getElem?_eq_getElem (by omega)]
    simp [List.getD, List.getElem?_eq_getElem (by omega : k < F.length)]
  have hfz := ho.frozenAt k
  have hst := ho.stored k (.int .u8 y)
  have HO := Lib.hid hst
  have HG := Lib.hid (ho.lt g rfl).1
  clear ho hb1 hst
  have kk : (k : Int) < L := by omega
  go_wp2_with fail
  obtain ⟨ao, c2, hv, hs2, -⟩ := row_src (n := L) (xs := F.set k y) (by rw [List.map_set]; exact HO.out.1) (fun z hz => by
    rcases List.mem_or_eq_of_mem_set hz with hz | hz
    · exact HFR.out z hz
    · rw [hz]; exact HY.out) (by omega)
  simp only [Value.slice.injEq, true_and] at hv
  obtain ⟨rfl, rfl⟩ := hv
  refine (open_any _ _ L c _ hs2).mono ?_
  rintro e w3 ⟨v3, rfl, ho3, hb3⟩
  rw [HT.out] at ho3 ⊢
  obtain ⟨a3, c3, rfl, -, -⟩ := row_src (n := 0) (xs := []) ho3 (by simp) (by omega)
  have HB3 := Lib.hid ((HB1.out.setCell (p := ⟨g, k, none⟩) HG.out (.int .u8 y)).trans (hb3.mono (by have := HB1.out.size; simpa using this)))
  clear ho3 hb3 hs2 hm' hk' hy
  go_wp2_with fail
  go_ret
  exact ⟨rfl, HB3.out⟩

theorem turned_walk (a0 : Option Addr) (len0 cap0 : Nat) (z0 : List Int) (a1 a2 : Int) (w : World) (w0 : IsRow .u8 w a0 len0 cap0 z0) (s0 : cap0 * 1 ≤ 140737488351232) (w1 : (Lit.int .i64 a1).wf = true) (w2 : (Lit.int .u8 a2).wf = true) :
    Calls Try.prog 8 #[.slice a0 len0 cap0, .int .i64 a1, .int .u8 a2] w fun e w' => e = .returned (.bool true) ∧ Below w.heap.size w w' :=
  turned_any w a0 len0 cap0 (z0.take len0) a1 a2 (src_of_row w0 s0) (nil_of_row w0) (int_range w1).2 (by have := byte_range w2; omega)

end Go.Proofs.Ytgiepkiogjkjjaa
