/-
  The scanner: the next token, with its place.
-/
import Derived.Test.YtkbfbcfgjgpfgaaDoorScX
namespace Go.Proofs.YtkbfbcfgjgpfgaaDoor
open Go.RowKit

theorem tkT_at (m : List UInt8) (p : Int) : tkT m p = ⟨(tkT m 0).kind, (tkT m 0).text, (tkT m 0).num, p⟩ := by
  cases m with
  | nil => rfl
  | cons c r =>
    rw [tkT_cons, tkT_cons]
    split
    · rfl
    · split <;> rfl

theorem Scn.mv {w w' : World} {b g p : Nat} {s : ByteArray} (h : Scn w b p s) (hb : Mv g w w') (hn : b ≠ g) : Scn w' b p s := (hb.block h.lt hn).trans h

theorem KwAt.mv {w w' : World} {g : Nat} (h : KwAt w) (hb : Mv g w w') (hn : 0 ≠ g) : KwAt w' := by
  obtain ⟨t, fr, h⟩ := h
  refine ⟨t, fr, ?_⟩
  rw [hb.block ?_ hn]
  · exact h
  · rcases Nat.lt_or_ge 0 w.heap.size with h' | h'
    · exact h'
    · rw [Array.getElem?_eq_none h'] at h; cases h

theorem ErrAt.lt {w : World} (h : ErrAt w) : 3 < w.heap.size := by
  obtain ⟨tp, p, hc⟩ := h
  exact World.block_lt_of_cell? w _ hc

theorem KwAt.lt {w : World} (h : KwAt w) : 0 < w.heap.size := by
  obtain ⟨t, fr, h⟩ := h
  rcases Nat.lt_or_ge 0 w.heap.size with h' | h'
  · exact h'
  · rw [Array.getElem?_eq_none h'] at h; cases h

theorem ErrAt.mv {w w' : World} {g : Nat} (h : ErrAt w) (hb : Mv g w w') (hn : 3 ≠ g) : ErrAt w' := by
  have hl := h.lt
  obtain ⟨tp, p, hc⟩ := h
  exact ⟨tp, p, by rw [World.cell?_of_block (w := w) (hb.block hl hn)]; exact hc⟩

/-- What take answers. -/
def takeR (m : List UInt8) (q : Nat) : Value := .tuple #[if tkE m = 0 then tkV (tkT m q) else tkV noTk, .int .i64 (tkE m)]

/-- Where a scanner stands behind take. -/
def nextP (m : List UInt8) (q : Nat) : Nat := if tkE m = 0 then q + tkS m else q

theorem Mv.put {b : Nat} {u w : World} (h : Mv b u w) (i : Nat) (g : Nat) (hg : u.heap.size ≤ g) (v : Value) : Mv b u (w.setCell ⟨g, i, none⟩ v) :=
  ⟨h.os, h.tape, h.output, by simpa [World.setCell] using h.size, fun k hk hne => (Below.heap_setCell _ _ _ _ (fun e => by
    have e : k = g := e
    omega)).trans (World.grownBy.block h k hk hne)⟩

set_option maxHeartbeats 1600000 in
set_option maxRecDepth 20000 in
theorem take_any (w : World) (b p : Nat) (s : ByteArray) (h : Scn w b p s) (hp : p ≤ s.size) (hs : s.size ≤ 140737488351232) (hK : KwAt w) (hE : ErrAt w) (hbk : 0 ≠ b) (hbe : 3 ≠ b)
    (q : Nat) (hq : q = p + blK false (s.data.toList.drop p)) (m : List UInt8) (hm : m = s.data.toList.drop q) :
    Calls Tryd.prog 15 #[.pointer (some ⟨b, 0, none⟩)] w fun e w' => e = .returned (takeR m q) ∧ Scn w' b (nextP m q) s ∧ Mv b w w' := by
  have hqs : q ≤ s.size := by
    have := blK_le false (s.data.toList.drop p)
    have e : s.data.toList.length = s.size := rfl
    rw [List.length_drop, e] at this
    omega
  have hts : q + tkS m ≤ s.size := by
    have := tkS_le m
    have e : s.data.toList.length = s.size := rfl
    rw [hm, List.length_drop, e, ← hm] at this
    omega
  have HS := Lib.hid h
  have HKW := Lib.hid hK
  have HER := Lib.hid hE
  have HNE := Lib.hid (And.intro hbk hbe)
  have HSK := Lib.hid (fun W (h : Scn W b p s) => skip_any W b p s h hp hs)
  have HTK := Lib.hid (fun W (h : Scn W b q s) hK hE => token_any W b q s h hqs hs hK hE)
  have HAD := Lib.hid (fun W (h : Scn W b q s) => adv_any W b q (tkS m) s h (by omega))
  obtain ⟨t, ht, ht2⟩ := tokR_form m
  obtain ⟨X, hX⟩ : ∃ X, txV t.text = .string X := ⟨_, rfl⟩
  have HX := Lib.hid hX
  have HT2 := Lib.hid ht2
  rw [← hq] at HSK
  rw [← hm, ht, hX] at HTK
  have hbl := h.lt
  clear h hK hE hbk hbe hq hm ht ht2 hX
  go_enter Tryd.func15, Tryd.ntmps15
  go_wp2_with fail
  obtain ⟨g1, hg1⟩ : ∃ g1, g1 = w.heap.size := ⟨_, rfl⟩
  obtain ⟨W0, hW0⟩ : ∃ W0, W0 = w.alloc (.cells #[.int .i64 0, .string ⟨#[]⟩, .int .i64 0, .int .i64 0] 31) := ⟨_, rfl⟩
  rw [← hW0, ← hg1]
  have HT0 : Hid (TkB W0 g1 (.int .i64 0) (.string ⟨#[]⟩) (.int .i64 0) (.int .i64 0)) := by rw [hW0, hg1]; exact TkB.new _ _ _ _ _
  have HS0 : Hid (Scn W0 b p s) := by rw [hW0]; exact HS.out.alloc _
  have HB0 : Hid (Below w.heap.size w W0) := by rw [hW0]; exact (Below.refl _ w).alloc (Nat.le_refl _) _
  have hg : w.heap.size ≤ g1 := by omega
  have hg1b : g1 ≠ b := by omega
  clear hW0 hg1
  refine (HSK.out W0 HS0.out).mono ?_
  rintro e w1 ⟨rfl, hs1, hm1⟩
  have HT1 := Lib.hid (HT0.out.mv hm1 hg1b)
  have HS1 := Lib.hid hs1
  have HM1 : Hid (Mv b w w1) := (Mv.of b HB0.out).trans hm1
  clear hs1 hm1
  have HK1 := Lib.hid (HKW.out.mv HM1.out HNE.out.1)
  have HE1 := Lib.hid (ErrAt.mv HER.out HM1.out HNE.out.2)
  go_wp2_with fail
  refine (HTK.out w1 HS1.out HK1.out HE1.out).mono ?_
  rintro e w2 ⟨rfl, hb⟩
  have HT2' := Lib.hid (HT1.out.below hb)
  have HS2 := Lib.hid (HS1.out.below hb)
  have HM2 : Hid (Mv b w w2) := HM1.out.trans (Mv.of b hb)
  clear hb
  obtain ⟨c, hc⟩ : ∃ c, tkE m = c := ⟨_, rfl⟩
  have HC := Lib.hid hc
  obtain ⟨k, hk⟩ : ∃ k, (if tkE m = 0 then (tkS m : Int) else 0) = k := ⟨_, rfl⟩
  rw [hk, hc]
  have HKK := Lib.hid hk
  clear hc hk
  obtain ⟨W3, hW3⟩ : ∃ W3, W3 = w2.alloc (.cells #[.int .i64 t.kind, .string X, .int .i64 t.num, .int .i64 t.at_] 31) := ⟨_, rfl⟩
  obtain ⟨g2, hg2⟩ : ∃ g2, g2 = w2.heap.size := ⟨_, rfl⟩
  have HT3 : Hid (TkB W3 g2 (.int .i64 t.kind) (.string X) (.int .i64 t.num) (.int .i64 t.at_)) := by rw [hW3, hg2]; exact TkB.new _ _ _ _ _
  have HT4 : Hid (TkB W3 g1 (.int .i64 0) (.string ⟨#[]⟩) (.int .i64 0) (.int .i64 0)) := by rw [hW3]; exact HT2'.out.alloc _
  have HS3 : Hid (Scn W3 b q s) := by rw [hW3]; exact HS2.out.alloc _
  have HM3 : Hid (Mv b w W3) := by rw [hW3]; exact HM2.out.trans (Mv.of b ((Below.refl _ w2).alloc (Nat.le_refl _) _))
  have hne : ¬ g1 = g2 := by have := HT2'.out.lt; omega
  have hne2 : ¬ g2 = g1 := fun e => hne e.symm
  have hgb : ¬ g2 = b := by have := HS2.out.lt; omega
  have hgw : w.heap.size ≤ g2 := by have := HT2'.out.lt; omega
  go_upto_region 3 with fail
  rw [← hW3, ← hg2]
  clear hW3 hg2 HT2' HT1 HT0 HS1 HS0 HB0 HS2 HM1 HM2 HK1 HE1 HSK HTK
  have c0 := HT4.out.c0
  have c1 := HT4.out.c1
  have c2 := HT4.out.c2
  have c3 := HT4.out.c3
  have f0 := HT4.out.fr 0
  have f1 := HT4.out.fr 1
  have f2 := HT4.out.fr 2
  have f3 := HT4.out.fr 3
  by_cases hc0 : c = 0
  · subst hc0
    have HKT : Hid (k = (tkS m : Int)) := by rw [← HKK.out, if_pos HC.out]; rfl
    have HTT : Hid (t = tkT m 0) := by rw [HT2.out, if_pos HC.out]; rfl
    obtain rfl : k = (tkS m : Int) := HKT.out
    have d0 := HT3.out.c0
    have d1 := HT3.out.c1
    have d2 := HT3.out.c2
    have d3 := HT3.out.c3
    have e3 := HT3.out.fr 3
    have s0 := HS3.out.c0
    have HS4 : Hid (Scn (W3.setCell ⟨g2, 3, none⟩ (.int .i64 (q : Int))) b q s) := (Below.heap_setCell W3 ⟨g2, 3, none⟩ _ b (fun e => hgb e.symm)).trans HS3.out
    have HA4 := Lib.hid (HAD.out _ HS4.out)
    go_wp2_with fail
    refine HA4.out.mono ?_
    rintro e w5 ⟨rfl, hs5, hm5⟩
    have HS5 := Lib.hid hs5
    have HM4 : Hid (Mv b w (W3.setCell ⟨g2, 3, none⟩ (.int .i64 (q : Int)))) := HM3.out.put 3 g2 hgw _
    have HM5 : Hid (Mv b w w5) := HM4.out.trans hm5
    have HT5 : Hid (TkB w5 g2 (.int .i64 t.kind) (.string X) (.int .i64 t.num) (.int .i64 (q : Int))) := (HT3.out.set3 _).mv hm5 hgb
    have HT6 : Hid (TkB w5 g1 (.int .i64 0) (.string ⟨#[]⟩) (.int .i64 0) (.int .i64 0)) := (show TkB _ g1 _ _ _ _ from (Below.heap_setCell W3 ⟨g2, 3, none⟩ _ g1 hne).trans HT4.out).mv hm5 hg1b
    clear hs5 hm5 c0 c1 c2 c3 f0 f1 f2 f3 d0 d1 d2 d3 e3 s0
    have c0 := HT6.out.c0
    have c1 := HT6.out.c1
    have c2 := HT6.out.c2
    have c3 := HT6.out.c3
    have f0 := HT6.out.fr 0
    have f1 := HT6.out.fr 1
    have f2 := HT6.out.fr 2
    have f3 := HT6.out.fr 3
    have d0 := HT5.out.c0
    have d1 := HT5.out.c1
    have d2 := HT5.out.c2
    have d3 := HT5.out.c3
    go_wp2_with fail
    refine bodyPost_ret (TkB.res2 rfl _ rfl (HT6.out.all _ _ _ _)) rfl ?_
    refine ⟨?_, ?_, (((HM5.out.put 0 g1 hg _).put 1 g1 hg _).put 2 g1 hg _).put 3 g1 hg _⟩
    · rw [takeR, HC.out, if_pos rfl, tkT_at, ← HTT.out, tkV, HX.out]
      rfl
    · rw [nextP, if_pos HC.out]
      refine ((((Below.heap_setCell _ ⟨g1, 3, none⟩ _ b ?_).trans (Below.heap_setCell _ ⟨g1, 2, none⟩ _ b ?_)).trans (Below.heap_setCell _ ⟨g1, 1, none⟩ _ b ?_)).trans (Below.heap_setCell _ ⟨g1, 0, none⟩ _ b ?_)).trans HS5.out <;> exact fun e => hg1b e.symm
  · have hc1 : (c == 0) = false := by simpa using hc0
    have HC0 := Lib.hid hc0
    clear hc0
    go_wp2_with fail
    refine bodyPost_ret (TkB.res2 rfl _ rfl (HT4.out.all _ _ _ _)) rfl ?_
    refine ⟨?_, ?_, (((HM3.out.put 0 g1 hg _).put 1 g1 hg _).put 2 g1 hg _).put 3 g1 hg _⟩
    · rw [takeR, HC.out, if_neg HC0.out]
      rfl
    · rw [nextP, HC.out, if_neg HC0.out]
      refine ((((Below.heap_setCell _ ⟨g1, 3, none⟩ _ b ?_).trans (Below.heap_setCell _ ⟨g1, 2, none⟩ _ b ?_)).trans (Below.heap_setCell _ ⟨g1, 1, none⟩ _ b ?_)).trans (Below.heap_setCell _ ⟨g1, 0, none⟩ _ b ?_)).trans HS3.out <;> exact fun e => hg1b e.symm

end Go.Proofs.YtkbfbcfgjgpfgaaDoor
