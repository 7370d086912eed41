/-
  The scanner: a token; the next one.
-/
import Derived.Test.YtkbfbcfgjgpfgaaDoorScV
namespace Go.Proofs.YtkbfbcfgjgpfgaaDoor
open Go.RowKit

/-- What token answers: the token without its place, how long it is, what is wrong. -/
def tokR (m : List UInt8) : Value := .tuple #[if tkE m = 0 then tkV (tkT m 0) else tkV noTk, .int .i64 (if tkE m = 0 then (tkS m : Int) else 0), .int .i64 (tkE m)]

theorem tokR_nil : tokR [] = .tuple #[tkV ⟨5, [], 0, 0⟩, .int .i64 0, .int .i64 0] := rfl

theorem tokR_word {c : UInt8} {r : List UInt8} (h : isLt c = true) : tokR (c :: r) = wordR (c :: r) := by
  have e : wsz (c :: r) = wdK (c :: r) := by rw [wsz_cons, if_pos h]
  rw [tokR, wordR, tkE_cons, tkS_cons, tkT_cons, e, if_pos h, if_pos h, if_pos h]
  by_cases hl : 24 < wdK (c :: r)
  · simp only [if_pos hl]
    rfl
  · simp only [if_neg hl, if_true]

theorem tokR_int {c : UInt8} {r : List UInt8} (h1 : isLt c = false) (h : isDg c = true) : tokR (c :: r) = intR (c :: r) := by
  rw [tokR, intR, tkE_cons, tkS_cons, tkT_cons, h1, h]
  by_cases hE : pE (c :: r) = 0
  · by_cases hl : dgK (c :: r) < wdK (c :: r)
    · simp [hE, hl]
    · simp [hE, hl]
  · simp [hE]

theorem tokR_sign {c : UInt8} {r : List UInt8} (h1 : isLt c = false) (h : isDg c = false) : tokR (c :: r) = signR (c :: r) := by
  rw [tokR, signR, tkE_cons, tkS_cons, tkT_cons, h1, h]
  by_cases hl : sgn (c :: r) = 0
  · simp [hl]
  · simp [hl]

theorem tokR_form (m : List UInt8) : ∃ t : Tk, tokR m = .tuple #[.agg #[.int .i64 t.kind, txV t.text, .int .i64 t.num, .int .i64 t.at_], .int .i64 (if tkE m = 0 then (tkS m : Int) else 0), .int .i64 (tkE m)] ∧ t = if tkE m = 0 then tkT m 0 else noTk := by
  refine ⟨_, ?_, rfl⟩
  rw [tokR]
  by_cases h : tkE m = 0
  · rw [if_pos h, if_pos h, if_pos h]; rfl
  · rw [if_neg h, if_neg h, if_neg h]; rfl

theorem drop_cons (s : ByteArray) (p : Nat) (h : p < s.size) : s.data.toList.drop p = s[p] :: s.data.toList.drop (p + 1) := by
  rw [← get_list s p h, List.getElem_cons_drop]

set_option maxHeartbeats 1600000 in
set_option maxRecDepth 20000 in
theorem token_any (w : World) (b p : Nat) (s : ByteArray) (h : Scn w b p s) (hp : p ≤ s.size) (hs : s.size ≤ 140737488351232) (hK : KwAt w) (hE : ErrAt w) :
    Calls Tryd.prog 24 #[.pointer (some ⟨b, 0, none⟩)] w fun e w' => e = .returned (tokR (s.data.toList.drop p)) ∧ Below w.heap.size w w' := by
  have HS := Lib.hid h
  have HKW := Lib.hid hK
  have HER := Lib.hid hE
  obtain ⟨r, hr⟩ : ∃ r, s.extract p s.size = r := ⟨_, rfl⟩
  have hrs : r.size ≤ 140737488351232 := by rw [← hr, ByteArray.size_extract]; omega
  have HR := Lib.hid (fun W (h : Scn W b p s) => rest_any W b p s h hp)
  have HX := Lib.hid (extract_drop s p)
  rw [hr] at HR HX
  have HSG := Lib.hid (fun W (h : Scn W b p s) => sign_any W b p s h hp hs)
  have HWO := Lib.hid (fun W hK => word_any W r hrs hK)
  have HIN := Lib.hid (fun W hE => integer_any W r hrs hE)
  obtain ⟨m, hm⟩ : ∃ m, s.data.toList.drop p = m := ⟨_, rfl⟩
  rw [hm] at HX HSG ⊢
  have hrl : r.data.toList = m := HX.out
  rw [hrl] at HWO HIN
  have HML : Hid (m.length = r.size) := by
    show _ = _
    rw [← hrl]
    rfl
  have HRL := Lib.hid hrl
  clear h hK hE hr hm hrl HX
  go_enter Tryd.func24, Tryd.ntmps24
  go_wp2_with fail
  obtain ⟨W0, hW0⟩ : ∃ W0, W0 = w.alloc (.cells #[.int .i64 0, .string ⟨#[]⟩, .int .i64 0, .int .i64 0] 31) := ⟨_, rfl⟩
  rw [← hW0]
  have HT0 : Hid (TkB W0 w.heap.size (.int .i64 0) (.string ⟨#[]⟩) (.int .i64 0) (.int .i64 0)) := by rw [hW0]; exact TkB.new _ _ _ _ _
  have HS0 : Hid (Scn W0 b p s) := by rw [hW0]; exact HS.out.alloc _
  have HB0 : Hid (Below w.heap.size w W0) := by rw [hW0]; exact (Below.refl _ w).alloc (Nat.le_refl _) _
  clear hW0
  refine (HR.out W0 HS0.out).mono ?_
  rintro e w1 ⟨rfl, n, rfl⟩
  have HT1 : Hid (TkB (W0.drewN n) w.heap.size (.int .i64 0) (.string ⟨#[]⟩) (.int .i64 0) (.int .i64 0)) := HT0.out
  have HS1 : Hid (Scn (W0.drewN n) b p s) := HS0.out
  have HB1 : Hid (Below w.heap.size w (W0.drewN n)) := HB0.out.trans ((drewN_below W0 n).mono HB0.out.size)
  obtain ⟨W1, hW1⟩ : ∃ W1, W1 = W0.drewN n := ⟨_, rfl⟩
  rw [← hW1] at HT1 HS1 HB1 ⊢
  clear hW1 HT0 HS0 HB0
  cases hl : r.toList.isEmpty with
  | true =>
    have hm : m = [] := by
      rw [Lib.toList_data, HRL.out] at hl
      simpa using hl
    have HR0 : Hid (tokR m = .tuple #[tkV ⟨5, [], 0, 0⟩, .int .i64 0, .int .i64 0]) := by show _ = _; rw [hm]; exact tokR_nil
    clear hm
    have c0 := HT1.out.c0
    have c1 := HT1.out.c1
    have c2 := HT1.out.c2
    have c3 := HT1.out.c3
    have f0 := HT1.out.fr 0
    have f1 := HT1.out.fr 1
    have f2 := HT1.out.fr 2
    have f3 := HT1.out.fr 3
    go_wp2_with fail
    refine bodyPost_ret (TkB.res3 rfl _ rfl (HT1.out.all _ _ _ _)) rfl ?_
    refine ⟨?_, below_all HB1.out (Nat.le_refl _) _ _ _ _⟩
    rw [HR0.out]
    rfl
  | false =>
    have hpos : 0 < r.size := by
      rcases Nat.eq_zero_or_pos r.size with h0 | h0
      · rw [Lib.toList_data, List.eq_nil_of_length_eq_zero (l := r.data.toList) h0] at hl
        cases hl
      · exact h0
    have hpos' : (0 : Int) < r.size := by omega
    have hcons := drop_cons r 0 hpos
    rw [List.drop_zero, HRL.out] at hcons
    obtain ⟨t, ht, ht2⟩ := tokR_form m
    obtain ⟨k, hk⟩ : ∃ k, (if tkE m = 0 then (tkS m : Int) else 0) = k := ⟨_, rfl⟩
    obtain ⟨c, hc⟩ : ∃ c, tkE m = c := ⟨_, rfl⟩
    obtain ⟨X, hX⟩ : ∃ X, txV t.text = .string X := ⟨_, rfl⟩
    rw [hk, hc, hX] at ht
    clear ht2 hk hc hX
    have HTF := Lib.hid ht
    have HLE := Lib.hid (fun W => letter_any r[0] W)
    have HDI := Lib.hid (fun W => digit_any r[0] W)
    obtain ⟨d1, hd1⟩ : ∃ d, isLt r[0] = d := ⟨_, rfl⟩
    obtain ⟨d2, hd2⟩ : ∃ d, isDg r[0] = d := ⟨_, rfl⟩
    rw [hd1] at HLE
    rw [hd2] at HDI
    cases d1
    · cases d2
      · have e : tokR m = signR m := by rw [hcons]; exact tokR_sign hd1 hd2
        rw [← e, ht] at HSG
        clear hd1 hd2 hcons ht e
        go_wp2_with fail
        refine (HLE.out W1).mono ?_
        rintro e w2 ⟨rfl, rfl⟩
        go_wp2_with fail
        refine (HDI.out W1).mono ?_
        rintro e w2 ⟨rfl, rfl⟩
        go_wp2_with fail
        refine (HSG.out W1 HS1.out).mono ?_
        rintro e w2 ⟨rfl, hb⟩
        have HT2 := Lib.hid (HT1.out.below hb)
        have HB2 : Hid (Below w.heap.size w w2) := HB1.out.trans (hb.mono HB1.out.size)
        clear hb
        have c0 := HT2.out.c0
        have c1 := HT2.out.c1
        have c2 := HT2.out.c2
        have c3 := HT2.out.c3
        have f0 := HT2.out.fr 0
        have f1 := HT2.out.fr 1
        have f2 := HT2.out.fr 2
        have f3 := HT2.out.fr 3
        go_wp2_with fail
        refine bodyPost_ret (TkB.res3 rfl _ rfl (HT2.out.all _ _ _ _)) rfl ?_
        refine ⟨?_, below_all HB2.out (Nat.le_refl _) _ _ _ _⟩
        rw [HTF.out]
        rfl
      · have e : tokR m = intR m := by rw [hcons]; exact tokR_int hd1 hd2
        rw [← e, ht] at HIN
        clear hd1 hd2 hcons ht e
        go_wp2_with fail
        refine (HLE.out W1).mono ?_
        rintro e w2 ⟨rfl, rfl⟩
        go_wp2_with fail
        refine (HDI.out W1).mono ?_
        rintro e w2 ⟨rfl, rfl⟩
        go_wp2_with fail
        refine (HIN.out W1 (errAt_below HER.out HB1.out)).mono ?_
        rintro e w2 ⟨rfl, hb⟩
        have HT2 := Lib.hid (HT1.out.below hb)
        have HB2 : Hid (Below w.heap.size w w2) := HB1.out.trans (hb.mono HB1.out.size)
        clear hb
        have c0 := HT2.out.c0
        have c1 := HT2.out.c1
        have c2 := HT2.out.c2
        have c3 := HT2.out.c3
        have f0 := HT2.out.fr 0
        have f1 := HT2.out.fr 1
        have f2 := HT2.out.fr 2
        have f3 := HT2.out.fr 3
        go_wp2_with fail
        refine bodyPost_ret (TkB.res3 rfl _ rfl (HT2.out.all _ _ _ _)) rfl ?_
        refine ⟨?_, below_all HB2.out (Nat.le_refl _) _ _ _ _⟩
        rw [HTF.out]
        rfl
    · have e : tokR m = wordR m := by rw [hcons]; exact tokR_word hd1
      rw [← e, ht] at HWO
      clear hd1 hd2 hcons ht e
      go_wp2_with fail
      refine (HLE.out W1).mono ?_
      rintro e w2 ⟨rfl, rfl⟩
      go_wp2_with fail
      refine (HWO.out W1 (HKW.out.below HB1.out)).mono ?_
      rintro e w2 ⟨rfl, hb⟩
      have HT2 := Lib.hid (HT1.out.below hb)
      have HB2 : Hid (Below w.heap.size w w2) := HB1.out.trans (hb.mono HB1.out.size)
      clear hb
      have c0 := HT2.out.c0
      have c1 := HT2.out.c1
      have c2 := HT2.out.c2
      have c3 := HT2.out.c3
      have f0 := HT2.out.fr 0
      have f1 := HT2.out.fr 1
      have f2 := HT2.out.fr 2
      have f3 := HT2.out.fr 3
      go_wp2_with fail
      refine bodyPost_ret (TkB.res3 rfl _ rfl (HT2.out.all _ _ _ _)) rfl ?_
      refine ⟨?_, below_all HB2.out (Nat.le_refl _) _ _ _ _⟩
      rw [HTF.out]
      rfl

end Go.Proofs.YtkbfbcfgjgpfgaaDoor
