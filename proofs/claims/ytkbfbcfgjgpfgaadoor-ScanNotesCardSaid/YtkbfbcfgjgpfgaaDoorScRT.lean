/-
  The document's token.
-/
import Derived.Test.YtkbfbcfgjgpfgaaDoorScRS
import Derived.Test.YtkbfbcfgjgpfgaaDoorScZ
namespace Go.Proofs.YtkbfbcfgjgpfgaaDoor
open Go.RowKit

/-- What the document's token answers. -/
def rtokR (m : List UInt8) (p : Nat) : Value := .tuple #[if tkE m = 0 then tkV (tkT m p) else tkV noTk, .int .i64 (if tkE m = 0 then (tkS m : Int) else 0), .int .i64 (tkE m)]

theorem extract_text (s : ByteArray) (p n r : Nat) (hr : p + n = r) : (s.extract p r).data.toList = (s.data.toList.drop p).take n := by
  rw [ByteArray.data_extract, Array.toList_extract, List.extract_eq_take_drop]
  congr 1
  omega

theorem txV_of {X : ByteArray} {l : List UInt8} (h : X.data.toList = l) : Value.string X = txV l := by
  unfold txV
  congr 1
  exact ByteArray.ext (Array.toList_inj.1 (by rw [h]))

set_option maxHeartbeats 3200000 in
set_option maxRecDepth 20000 in
theorem rtoken_word (s : ByteArray) (p : Nat) (w : World) (hs : s.size ≤ 140737488351232) (hp : p < s.size) (hlt : isLt s[p] = true) :
    Calls Tryd.prog 17 #[.string s, .int .i64 p] w fun e w' => e = .returned (rtokR (s.data.toList.drop p) p) ∧ Below w.heap.size w w' := by
  have hlen : s.data.toList.length = s.size := rfl
  have hdc := drop_cons s p hp
  have HRW := Lib.hid (fun W => rrow_any s p W hs (by omega))
  have HLE := Lib.hid (fun W => rletter_any s[p] W)
  have HDI := Lib.hid (fun W => rdigit_any s[p] W)
  rw [hlt] at HLE
  rw [lt_not_dg hlt] at HDI
  obtain ⟨m, hm⟩ : ∃ m, s.data.toList.drop p = m := ⟨_, rfl⟩
  obtain ⟨n, hn⟩ : ∃ n, wdK m = n := ⟨_, rfl⟩
  obtain ⟨r, hr⟩ : ∃ r, p + n = r := ⟨_, rfl⟩
  have HX := Lib.hid (extract_text s p n r hr)
  rw [hm] at hdc HRW HX ⊢
  rw [hn] at HRW
  have hml : m.length + p = s.size := by rw [← hm, List.length_drop, hlen]; omega
  have hnm : n ≤ m.length := by rw [← hn]; exact wdK_le m
  have hrs : r ≤ s.size := by omega
  have hpr : p ≤ r := by omega
  have hz : (p : Int) + n = (r : Int) := by omega
  have HE : Hid (tkE m = if 24 < n then 2 else 0) := by show _ = _; rw [← hn, hdc, tkE_cons, if_pos hlt]
  have HSZ : Hid (tkS m = n) := by show _ = _; rw [← hn, hdc, tkS_cons, if_pos hlt]
  have HTT : Hid (tkT m p = ⟨if isKw (m.take n) = true then 2 else 1, m.take n, 0, p⟩) := by show _ = _; rw [← hn, hdc, tkT_cons, if_pos hlt]
  have HKW := Lib.hid (fun W => rword_any (s.extract p r) W)
  rw [HX.out] at HKW
  have HXV := Lib.hid (txV_of HX.out)
  obtain ⟨d, hd⟩ : ∃ d, isKw (m.take n) = d := ⟨_, rfl⟩
  rw [hd] at HKW HTT
  generalize hXX : s.extract p r = X at *
  have HXE := Lib.hid hXX
  clear hlt hdc hm hn hr hml hnm hlen hd hXX
  obtain ⟨g1, hg1⟩ : ∃ g1, g1 = w.heap.size := ⟨_, rfl⟩
  obtain ⟨W0, hW0⟩ : ∃ W0, W0 = w.alloc (.cells #[.int .i64 0, .string ⟨#[]⟩, .int .i64 0, .int .i64 0] 31) := ⟨_, rfl⟩
  have HT0 : Hid (TkB W0 g1 (.int .i64 0) (.string ⟨#[]⟩) (.int .i64 0) (.int .i64 0)) := by rw [hW0, hg1]; exact TkB.new _ _ _ _ _
  have HB0 : Hid (Below w.heap.size w W0) := by rw [hW0]; exact (Below.refl _ w).alloc (Nat.le_refl _) _
  have hgw : w.heap.size ≤ g1 := by omega
  go_enter Tryd.func17, Tryd.ntmps17
  go_upto_region 1 with fail
  rw [← hW0, ← hg1]
  clear hW0 hg1
  go_wp2_with fail
  refine (HLE.out W0).mono ?_
  rintro e w1 ⟨rfl, rfl⟩
  go_wp2_with fail
  refine (HDI.out W0).mono ?_
  rintro e w1 ⟨rfl, rfl⟩
  go_wp2_with fail
  refine (HRW.out W0).mono ?_
  rintro e w1 ⟨rfl, rfl⟩
  go_wp2_with fail
  rw [HXE.out]
  obtain ⟨g2, hg2⟩ : ∃ g2, g2 = W0.heap.size := ⟨_, rfl⟩
  obtain ⟨W1, hW1⟩ : ∃ W1, W1 = W0.alloc (.cells #[.int .i64 1, .string X, .int .i64 0, .int .i64 (p : Int)] 31) := ⟨_, rfl⟩
  rw [← hW1, ← hg2]
  have HT1 : Hid (TkB W1 g1 (.int .i64 0) (.string ⟨#[]⟩) (.int .i64 0) (.int .i64 0)) := by rw [hW1]; exact HT0.out.alloc _
  have HG1 : Hid (TkB W1 g2 (.int .i64 1) (.string X) (.int .i64 0) (.int .i64 (p : Int))) := by rw [hW1, hg2]; exact TkB.new _ _ _ _ _
  have HB1 : Hid (Below w.heap.size w W1) := by rw [hW1]; exact HB0.out.alloc HB0.out.size _
  have hne : ¬ g1 = g2 := by have := HT0.out.lt; omega
  have hne2 : ¬ g2 = g1 := fun e => hne e.symm
  have hgw2 : w.heap.size ≤ g2 := by have := HT0.out.lt; omega
  clear hW1 hg2 HT0 HB0
  refine (HKW.out W1).mono ?_
  rintro e w2 ⟨rfl, hb⟩
  have HT2 := Lib.hid (HT1.out.below hb)
  have HG2 := Lib.hid (HG1.out.below hb)
  have HB2 : Hid (Below w.heap.size w w2) := HB1.out.trans (hb.mono HB1.out.size)
  clear hb HT1 HG1 HB1
  have c0 := HT2.out.c0
  have c1 := HT2.out.c1
  have c2 := HT2.out.c2
  have c3 := HT2.out.c3
  have f0 := HT2.out.fr 0
  have f1 := HT2.out.fr 1
  have f2 := HT2.out.fr 2
  have f3 := HT2.out.fr 3
  have d0 := HG2.out.c0
  have d1 := HG2.out.c1
  have d2 := HG2.out.c2
  have d3 := HG2.out.c3
  have e0 := HG2.out.fr 0
  by_cases hl : 24 < n
  · have hl' : (24 : Int) < n := by omega
    have HH := Lib.hid hl
    cases d
    · go_wp2_with fail
      refine bodyPost_ret (TkB.res3 rfl _ rfl (HT2.out.all _ _ _ _)) rfl ?_
      refine ⟨?_, below_all HB2.out hgw _ _ _ _⟩
      rw [rtokR, HE.out, if_pos HH.out, if_neg (by decide), if_neg (by decide)]
      rfl
    · go_wp2_with fail
      refine bodyPost_ret (TkB.res3 rfl _ rfl ((show TkB _ g1 _ _ _ _ from (Below.heap_setCell w2 ⟨g2, 0, none⟩ _ g1 hne).trans HT2.out).all _ _ _ _)) rfl ?_
      refine ⟨?_, below_all (HB2.out.setCell (p := ⟨g2, 0, none⟩) hgw2 _) hgw _ _ _ _⟩
      rw [rtokR, HE.out, if_pos HH.out, if_neg (by decide), if_neg (by decide)]
      rfl
  · have hl' : ¬ (24 : Int) < n := by omega
    have HH := Lib.hid hl
    cases d
    · go_wp2_with fail
      refine bodyPost_ret (TkB.res3 rfl _ rfl (HT2.out.all _ _ _ _)) rfl ?_
      refine ⟨?_, below_all HB2.out hgw _ _ _ _⟩
      rw [rtokR, HE.out, if_neg HH.out, if_pos rfl, if_pos rfl, HSZ.out, HTT.out, tkV, ← HXV.out]
      rfl
    · go_wp2_with fail
      refine bodyPost_ret (TkB.res3 rfl _ rfl ((show TkB _ g1 _ _ _ _ from (Below.heap_setCell w2 ⟨g2, 0, none⟩ _ g1 hne).trans HT2.out).all _ _ _ _)) rfl ?_
      refine ⟨?_, below_all (HB2.out.setCell (p := ⟨g2, 0, none⟩) hgw2 _) hgw _ _ _ _⟩
      rw [rtokR, HE.out, if_neg HH.out, if_pos rfl, if_pos rfl, HSZ.out, HTT.out, tkV, ← HXV.out]
      rfl

set_option maxHeartbeats 3200000 in
set_option maxRecDepth 20000 in
theorem rtoken_sign (s : ByteArray) (p : Nat) (w : World) (hs : s.size ≤ 140737488351232) (hp : p < s.size) (h1 : isLt s[p] = false) (h2 : isDg s[p] = false) :
    Calls Tryd.prog 17 #[.string s, .int .i64 p] w fun e w' => e = .returned (rtokR (s.data.toList.drop p) p) ∧ Below w.heap.size w w' := by
  have hlen : s.data.toList.length = s.size := rfl
  have hdc := drop_cons s p hp
  have HSG := Lib.hid (fun W => rsign_any s p W hs hp)
  have HLE := Lib.hid (fun W => rletter_any s[p] W)
  have HDI := Lib.hid (fun W => rdigit_any s[p] W)
  rw [h1] at HLE
  rw [h2] at HDI
  obtain ⟨m, hm⟩ : ∃ m, s.data.toList.drop p = m := ⟨_, rfl⟩
  obtain ⟨n, hn⟩ : ∃ n, sgn m = n := ⟨_, rfl⟩
  obtain ⟨r, hr⟩ : ∃ r, p + n = r := ⟨_, rfl⟩
  have HX := Lib.hid (extract_text s p n r hr)
  rw [hm] at hdc HSG HX ⊢
  rw [hn] at HSG
  have hml : m.length + p = s.size := by rw [← hm, List.length_drop, hlen]; omega
  have hnm : n ≤ m.length := by rw [← hn]; exact sgn_le m
  have hrs : r ≤ s.size := by omega
  have hpr : p ≤ r := by omega
  have hz : (p : Int) + n = (r : Int) := by omega
  have e2 : ¬ isLt s[p] = true := by rw [h1]; decide
  have e3 : ¬ isDg s[p] = true := by rw [h2]; decide
  have HE : Hid (tkE m = if n = 0 then 4 else 0) := by show _ = _; rw [← hn, hdc, tkE_cons, if_neg e2, if_neg e3]
  have HSZ : Hid (tkS m = n) := by show _ = _; rw [← hn, hdc, tkS_cons, if_neg e2, if_neg e3]
  have HTT : Hid (tkT m p = ⟨4, m.take n, 0, p⟩) := by show _ = _; rw [← hn, hdc, tkT_cons, if_neg e2, if_neg e3]
  have HXV := Lib.hid (txV_of HX.out)
  have HXE : Hid (∀ X, s.extract p r = X → Value.string X = txV (m.take n)) := fun X h => by rw [← h]; exact HXV.out
  clear h1 h2 hdc hm hn hr hml hnm hlen e2 e3 HX HXV
  obtain ⟨g1, hg1⟩ : ∃ g1, g1 = w.heap.size := ⟨_, rfl⟩
  obtain ⟨W0, hW0⟩ : ∃ W0, W0 = w.alloc (.cells #[.int .i64 0, .string ⟨#[]⟩, .int .i64 0, .int .i64 0] 31) := ⟨_, rfl⟩
  have HT0 : Hid (TkB W0 g1 (.int .i64 0) (.string ⟨#[]⟩) (.int .i64 0) (.int .i64 0)) := by rw [hW0, hg1]; exact TkB.new _ _ _ _ _
  have HB0 : Hid (Below w.heap.size w W0) := by rw [hW0]; exact (Below.refl _ w).alloc (Nat.le_refl _) _
  have hgw : w.heap.size ≤ g1 := by omega
  go_enter Tryd.func17, Tryd.ntmps17
  go_upto_region 1 with fail
  rw [← hW0, ← hg1]
  clear hW0 hg1
  go_wp2_with fail
  refine (HLE.out W0).mono ?_
  rintro e w1 ⟨rfl, rfl⟩
  go_wp2_with fail
  refine (HDI.out W0).mono ?_
  rintro e w1 ⟨rfl, rfl⟩
  go_wp2_with fail
  refine (HSG.out W0).mono ?_
  rintro e w2 ⟨rfl, hb⟩
  have HT2 := Lib.hid (HT0.out.below hb)
  have HB2 : Hid (Below w.heap.size w w2) := HB0.out.trans (hb.mono HB0.out.size)
  clear hb
  have c0 := HT2.out.c0
  have c1 := HT2.out.c1
  have c2 := HT2.out.c2
  have c3 := HT2.out.c3
  have f0 := HT2.out.fr 0
  have f1 := HT2.out.fr 1
  have f2 := HT2.out.fr 2
  have f3 := HT2.out.fr 3
  by_cases hn0 : n = 0
  · have hn1 : ((n : Int) == 0) = true := by rw [hn0]; rfl
    have HH := Lib.hid hn0
    clear hn0
    go_wp2_with fail
    refine bodyPost_ret (TkB.res3 rfl _ rfl (HT2.out.all _ _ _ _)) rfl ?_
    refine ⟨?_, below_all HB2.out hgw _ _ _ _⟩
    rw [rtokR, HE.out, if_pos HH.out, if_neg (by decide), if_neg (by decide)]
    rfl
  · have hn1 : ((n : Int) == 0) = false := by rw [beq_eq_false_iff_ne]; omega
    have HH := Lib.hid hn0
    clear hn0
    go_wp2_with fail
    refine bodyPost_ret (TkB.res3 rfl _ rfl (HT2.out.all _ _ _ _)) rfl ?_
    refine ⟨?_, below_all HB2.out hgw _ _ _ _⟩
    rw [rtokR, HE.out, if_neg HH.out, if_pos rfl, if_pos rfl, HSZ.out, HTT.out, tkV, ← HXE.out _ rfl]
    rfl

set_option maxHeartbeats 3200000 in
set_option maxRecDepth 20000 in
theorem rtoken_int (s : ByteArray) (p : Nat) (w : World) (hs : s.size ≤ 140737488351232) (hp : p < s.size) (h1 : isLt s[p] = false) (h2 : isDg s[p] = true) :
    Calls Tryd.prog 17 #[.string s, .int .i64 p] w fun e w' => e = .returned (rtokR (s.data.toList.drop p) p) ∧ Below w.heap.size w w' := by
  have hlen : s.data.toList.length = s.size := rfl
  have hdc := drop_cons s p hp
  have hp' : (p : Int) ≤ s.size := by omega
  have HPA := Lib.hid (fun W => rparse_any (s.extract p s.size) W (by rw [ByteArray.size_extract]; omega))
  rw [extract_drop] at HPA
  have HRW := Lib.hid (fun W => rrow_any s p W hs (by omega))
  have HLE := Lib.hid (fun W => rletter_any s[p] W)
  have HDI := Lib.hid (fun W => rdigit_any s[p] W)
  rw [h1] at HLE
  rw [h2] at HDI
  obtain ⟨m, hm⟩ : ∃ m, s.data.toList.drop p = m := ⟨_, rfl⟩
  rw [hm] at hdc HPA HRW ⊢
  obtain ⟨x, hx⟩ : ∃ x, pE m = x := ⟨_, rfl⟩
  obtain ⟨v, hv⟩ : ∃ v, pV m = v := ⟨_, rfl⟩
  obtain ⟨pn, hpn⟩ : ∃ pn, pN m = pn := ⟨_, rfl⟩
  obtain ⟨n, hn⟩ : ∃ n, dgK m = n := ⟨_, rfl⟩
  obtain ⟨z, hz⟩ : ∃ z, wdK m = z := ⟨_, rfl⟩
  have HPN := Lib.hid (pN_ok (m := m))
  rw [hx, hv, hpn] at HPA
  rw [hx, hpn, hn] at HPN
  rw [hz] at HRW
  have e2 : ¬ isLt s[p] = true := by rw [h1]; decide
  have HE : Hid (tkE m = if x = 0 then (if n < z then 4 else 0) else x) := by show _ = _; rw [← hx, ← hn, ← hz, hdc, tkE_cons, if_neg e2, if_pos h2]
  have HSZ : Hid (tkS m = n) := by show _ = _; rw [← hn, hdc, tkS_cons, if_neg e2, if_pos h2]
  have HTT : Hid (tkT m p = ⟨3, [], v, p⟩) := by show _ = _; rw [← hv, hdc, tkT_cons, if_neg e2, if_pos h2]
  clear h1 h2 hdc hm hn hlen e2 hx hv hpn hz
  obtain ⟨g1, hg1⟩ : ∃ g1, g1 = w.heap.size := ⟨_, rfl⟩
  obtain ⟨W0, hW0⟩ : ∃ W0, W0 = w.alloc (.cells #[.int .i64 0, .string ⟨#[]⟩, .int .i64 0, .int .i64 0] 31) := ⟨_, rfl⟩
  have HT0 : Hid (TkB W0 g1 (.int .i64 0) (.string ⟨#[]⟩) (.int .i64 0) (.int .i64 0)) := by rw [hW0, hg1]; exact TkB.new _ _ _ _ _
  have HB0 : Hid (Below w.heap.size w W0) := by rw [hW0]; exact (Below.refl _ w).alloc (Nat.le_refl _) _
  have hgw : w.heap.size ≤ g1 := by omega
  go_enter Tryd.func17, Tryd.ntmps17
  go_upto_region 1 with fail
  rw [← hW0, ← hg1]
  clear hW0 hg1
  have c0 := HT0.out.c0
  have c1 := HT0.out.c1
  have c2 := HT0.out.c2
  have c3 := HT0.out.c3
  have f0 := HT0.out.fr 0
  have f1 := HT0.out.fr 1
  have f2 := HT0.out.fr 2
  have f3 := HT0.out.fr 3
  go_wp2_with fail
  refine (HLE.out W0).mono ?_
  rintro e w1 ⟨rfl, rfl⟩
  go_wp2_with fail
  refine (HDI.out W0).mono ?_
  rintro e w1 ⟨rfl, rfl⟩
  go_wp2_with fail
  refine (HPA.out W0).mono ?_
  rintro e w2 ⟨rfl, rfl⟩
  by_cases hx0 : x = 0
  · subst hx0
    obtain rfl : pn = (n : Int) := HPN.out rfl
    by_cases hnz : n < z
    · have hnz' : (n : Int) < z := by omega
      have HH := Lib.hid hnz
      go_wp2_with fail
      refine (HRW.out W0).mono ?_
      rintro e w2 ⟨rfl, rfl⟩
      go_wp2_with fail
      refine bodyPost_ret (TkB.res3 rfl _ rfl (HT0.out.all _ _ _ _)) rfl ?_
      refine ⟨?_, below_all HB0.out hgw _ _ _ _⟩
      rw [rtokR, HE.out, if_pos trivial, if_pos HH.out, if_neg (by decide), if_neg (by decide)]
      rfl
    · have hnz' : ¬ (n : Int) < z := by omega
      have HH := Lib.hid hnz
      go_wp2_with fail
      refine (HRW.out W0).mono ?_
      rintro e w2 ⟨rfl, rfl⟩
      go_wp2_with fail
      refine bodyPost_ret (TkB.res3 rfl _ rfl (HT0.out.all _ _ _ _)) rfl ?_
      refine ⟨?_, below_all HB0.out hgw _ _ _ _⟩
      rw [rtokR, HE.out, if_pos trivial, if_neg HH.out, if_pos rfl, if_pos rfl, HSZ.out, HTT.out]
      rfl
  · have hx1 : (x == 0) = false := by simpa using hx0
    have HH := Lib.hid hx0
    clear hx0
    go_wp2_with fail
    refine bodyPost_ret (TkB.res3 rfl _ rfl (HT0.out.all _ _ _ _)) rfl ?_
    refine ⟨?_, below_all HB0.out hgw _ _ _ _⟩
    rw [rtokR, HE.out, if_neg HH.out, if_neg HH.out, if_neg HH.out]
    rfl

theorem rtoken_any (s : ByteArray) (p : Nat) (w : World) (hs : s.size ≤ 140737488351232) (hp : p < s.size) :
    Calls Tryd.prog 17 #[.string s, .int .i64 p] w fun e w' => e = .returned (rtokR (s.data.toList.drop p) p) ∧ Below w.heap.size w w' := by
  cases h1 : isLt s[p] with
  | true => exact rtoken_word s p w hs hp h1
  | false =>
    cases h2 : isDg s[p] with
    | true => exact rtoken_int s p w hs hp h1 h2
    | false => exact rtoken_sign s p w hs hp h1 h2

end Go.Proofs.YtkbfbcfgjgpfgaaDoor
