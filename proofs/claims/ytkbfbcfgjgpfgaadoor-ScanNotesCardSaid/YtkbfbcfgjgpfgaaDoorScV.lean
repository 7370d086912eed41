/-
  The scanner: a sign, a word, an integer, a token.
-/
import Derived.Test.YtkbfbcfgjgpfgaaDoorScG
namespace Go.Proofs.YtkbfbcfgjgpfgaaDoor
open Go.RowKit

/-- A text of bytes, as a value. -/
def txV (l : List UInt8) : Value := .string ⟨l.toArray⟩

/-- A token, as a value: its cells. -/
def tkV (t : Tk) : Value := .agg #[.int .i64 t.kind, txV t.text, .int .i64 t.num, .int .i64 t.at_]

theorem zero_ext {s : ByteArray} {k : Nat} : Value.string (s.extract 0 k) = txV (s.data.toList.take k) := by
  unfold txV
  congr 1
  apply ByteArray.ext
  apply Array.toList_inj.1
  simp

/-- No token. -/
def noTk : Tk := ⟨0, [], 0, 0⟩

/-- What sign answers, word, integer. -/
def signR (m : List UInt8) : Value := .tuple #[if sgn m = 0 then tkV noTk else tkV ⟨4, m.take (sgn m), 0, 0⟩, .int .i64 (sgn m), .int .i64 (if sgn m = 0 then 4 else 0)]
def wordR (m : List UInt8) : Value := .tuple #[if 24 < wsz m then tkV noTk else tkV ⟨if isKw (m.take (wsz m)) = true then 2 else 1, m.take (wsz m), 0, 0⟩, .int .i64 (if 24 < wsz m then 0 else wsz m), .int .i64 (if 24 < wsz m then 2 else 0)]

/-- A token's block. -/
def TkB (w : World) (g : Nat) (x0 x1 x2 x3 : Value) : Prop := w.heap[g]? = some (.cells #[x0, x1, x2, x3] 31 (0, 0))

section
variable {w w' : World} {g : Nat} {x0 x1 x2 x3 : Value}
theorem TkB.lt (h : TkB w g x0 x1 x2 x3) : g < w.heap.size := by
  rcases Nat.lt_or_ge g w.heap.size with hlt | hge
  · exact hlt
  · unfold TkB at h; rw [Array.getElem?_eq_none hge] at h; cases h
theorem TkB.c0 (h : TkB w g x0 x1 x2 x3) : w.cell? ⟨g, 0, none⟩ = some x0 := cell_of_row w g 0 _ _ _ h
theorem TkB.c1 (h : TkB w g x0 x1 x2 x3) : w.cell? ⟨g, 1, none⟩ = some x1 := cell_of_row w g 1 _ _ _ h
theorem TkB.c2 (h : TkB w g x0 x1 x2 x3) : w.cell? ⟨g, 2, none⟩ = some x2 := cell_of_row w g 2 _ _ _ h
theorem TkB.c3 (h : TkB w g x0 x1 x2 x3) : w.cell? ⟨g, 3, none⟩ = some x3 := cell_of_row w g 3 _ _ _ h
theorem TkB.fr (h : TkB w g x0 x1 x2 x3) (i : Nat) : w.frozen? ⟨g, i, none⟩ = false := by
  unfold TkB at h
  simp [World.frozen?, h]
theorem TkB.below (h : TkB w g x0 x1 x2 x3) (hb : Below w.heap.size w w') : TkB w' g x0 x1 x2 x3 := (hb.block g h.lt).trans h
theorem TkB.alloc (h : TkB w g x0 x1 x2 x3) (o : Obj) : TkB (w.alloc o) g x0 x1 x2 x3 := (Below.heap_alloc w o g h.lt).trans h
theorem TkB.mv {b : Nat} (h : TkB w g x0 x1 x2 x3) (hb : Mv b w w') (hn : g ≠ b) : TkB w' g x0 x1 x2 x3 := (hb.block h.lt hn).trans h
theorem TkB.set (h : TkB w g x0 x1 x2 x3) (i : Nat) (v : Value) : (w.setCell ⟨g, i, none⟩ v).heap[g]? = some (.cells (#[x0, x1, x2, x3].setIfInBounds i v) 31 (0, 0)) := heap_setCell_same w g i _ _ v h
theorem TkB.set0 (h : TkB w g x0 x1 x2 x3) (v : Value) : TkB (w.setCell ⟨g, 0, none⟩ v) g v x1 x2 x3 := h.set 0 v
theorem TkB.set1 (h : TkB w g x0 x1 x2 x3) (v : Value) : TkB (w.setCell ⟨g, 1, none⟩ v) g x0 v x2 x3 := h.set 1 v
theorem TkB.set2 (h : TkB w g x0 x1 x2 x3) (v : Value) : TkB (w.setCell ⟨g, 2, none⟩ v) g x0 x1 v x3 := h.set 2 v
theorem TkB.set3 (h : TkB w g x0 x1 x2 x3) (v : Value) : TkB (w.setCell ⟨g, 3, none⟩ v) g x0 x1 x2 v := h.set 3 v
theorem TkB.all (h : TkB w g x0 x1 x2 x3) (y0 y1 y2 y3 : Value) : TkB ((((w.setCell ⟨g, 0, none⟩ y0).setCell ⟨g, 1, none⟩ y1).setCell ⟨g, 2, none⟩ y2).setCell ⟨g, 3, none⟩ y3) g y0 y1 y2 y3 := (((h.set0 y0).set1 y1).set2 y2).set3 y3
theorem below_all {B : Nat} {u : World} (h : Below B u w) (hB : B ≤ g) (y0 y1 y2 y3 : Value) : Below B u ((((w.setCell ⟨g, 0, none⟩ y0).setCell ⟨g, 1, none⟩ y1).setCell ⟨g, 2, none⟩ y2).setCell ⟨g, 3, none⟩ y3) :=
  (((h.setCell (p := ⟨g, 0, none⟩) hB y0).setCell (p := ⟨g, 1, none⟩) hB y1).setCell (p := ⟨g, 2, none⟩) hB y2).setCell (p := ⟨g, 3, none⟩) hB y3
theorem TkB.load (h : TkB w g x0 x1 x2 x3) : (loadVar 31 ⟨g, 0, none⟩).run Tryd.prog w = .ok (.agg #[x0, x1, x2, x3]) w :=
  run_loadVar_row w g _ _ _ _ _ h Tryd.underlying31 rfl (by kernel_rfl)
theorem TkB.res3 {fn : Func} {p t u : Tmp} (hr : fn.results = #[.cell p 31, .tmp t, .tmp u]) (tmps : Array Value) (hp : tmps.getD p undef = .pointer (some ⟨g, 0, none⟩)) (h : TkB w g x0 x1 x2 x3) :
    (results fn tmps).run Tryd.prog w = .ok (.tuple #[.agg #[x0, x1, x2, x3], tmps.getD t undef, tmps.getD u undef]) w := by
  have hp' : tmps[p]?.getD undef = .pointer (some ⟨g, 0, none⟩) := by simpa using hp
  simp [results, hr, hp', asAddr, h.load]
theorem TkB.res2 {fn : Func} {p t : Tmp} (hr : fn.results = #[.cell p 31, .tmp t]) (tmps : Array Value) (hp : tmps.getD p undef = .pointer (some ⟨g, 0, none⟩)) (h : TkB w g x0 x1 x2 x3) :
    (results fn tmps).run Tryd.prog w = .ok (.tuple #[.agg #[x0, x1, x2, x3], tmps.getD t undef]) w := by
  have hp' : tmps[p]?.getD undef = .pointer (some ⟨g, 0, none⟩) := by simpa using hp
  simp [results, hr, hp', asAddr, h.load]
theorem TkB.new (w : World) (x0 x1 x2 x3 : Value) : TkB (w.alloc (.cells #[x0, x1, x2, x3] 31)) w.heap.size x0 x1 x2 x3 := heap_alloc_new w _
end

set_option maxHeartbeats 800000 in
set_option maxRecDepth 20000 in
theorem sign_any (w : World) (b p : Nat) (s : ByteArray) (h : Scn w b p s) (hp : p ≤ s.size) (hs : s.size ≤ 140737488351232) :
    Calls Tryd.prog 37 #[.pointer (some ⟨b, 0, none⟩)] w fun e w' => e = .returned (signR (s.data.toList.drop p)) ∧ Below w.heap.size w w' := by
  have HS := Lib.hid h
  have HX := Lib.hid (extract_drop s p)
  have HG := Lib.hid (fun W (h : Scn W b p s) => signSize_any W b p s h hp)
  have HR := Lib.hid (fun W (h : Scn W b p s) => rest_any W b p s h hp)
  obtain ⟨m, hm⟩ : ∃ m, s.data.toList.drop p = m := ⟨_, rfl⟩
  obtain ⟨k, hk⟩ : ∃ k, sgn m = k := ⟨_, rfl⟩
  rw [hm] at HG HX ⊢
  have HK : Hid (k ≤ m.length) := by rw [← hk]; exact sgn_le m
  rw [hk] at HG
  have HKK := Lib.hid hk
  clear h hm hk
  go_enter Tryd.func37, Tryd.ntmps37
  go_wp2_with fail
  obtain ⟨W0, hW0⟩ : ∃ W0, W0 = w.alloc (.cells #[.int .i64 0, .string ⟨#[]⟩, .int .i64 0, .int .i64 0] 31) := ⟨_, rfl⟩
  rw [← hW0]
  have HT0 : Hid (TkB W0 w.heap.size (.int .i64 0) (.string ⟨#[]⟩) (.int .i64 0) (.int .i64 0)) := by rw [hW0]; exact TkB.new _ _ _ _ _
  have HS0 : Hid (Scn W0 b p s) := by rw [hW0]; exact HS.out.alloc _
  have HB0 : Hid (Below w.heap.size w W0) := by rw [hW0]; exact (Below.refl _ w).alloc (Nat.le_refl _) _
  clear hW0
  refine (HG.out W0 HS0.out).mono ?_
  rintro e w1 ⟨rfl, hb⟩
  have HT1 := Lib.hid (HT0.out.below hb)
  have HS1 := Lib.hid (HS0.out.below hb)
  have HB1 : Hid (Below w.heap.size w w1) := HB0.out.trans (hb.mono HB0.out.size)
  clear hb
  by_cases h0 : k = 0
  · subst h0
    have c0 := HT1.out.c0
    have c1 := HT1.out.c1
    have c2 := HT1.out.c2
    have c3 := HT1.out.c3
    have f0 := HT1.out.fr 0
    have f1 := HT1.out.fr 1
    have f2 := HT1.out.fr 2
    have f3 := HT1.out.fr 3
    have e0 : (((0 : Nat) : Int) == 0) = true := rfl
    go_wp2_with fail
    refine bodyPost_ret (TkB.res3 rfl _ rfl (HT1.out.all _ _ _ _)) rfl ?_
    refine ⟨?_, below_all HB1.out (Nat.le_refl _) _ _ _ _⟩
    rw [signR, HKK.out, if_pos rfl, if_pos rfl]
    rfl
  · have e0 : ((k : Int) == 0) = false := by rw [beq_eq_false_iff_ne]; omega
    have HH := Lib.hid h0
    clear h0
    go_wp2_with fail
    refine (HR.out w1 HS1.out).mono ?_
    rintro e w2 ⟨rfl, n, rfl⟩
    have hk : k ≤ (s.extract p s.size).size := by
      have e : (s.extract p s.size).data.toList.length = (s.extract p s.size).size := rfl
      rw [← e, HX.out]
      exact HK.out
    have hk' : (k : Int) ≤ ((s.extract p s.size).size : Int) := by omega
    have hx : Hid (((s.extract p s.size).extract 0 k).size ≤ 140737488351232) := by
      show _ ≤ _
      rw [ByteArray.size_extract, ByteArray.size_extract]
      omega
    have HC := Lib.hid (clone_any ((s.extract p s.size).extract 0 k) (w1.drewN n) hx.out)
    have HZ := Lib.hid (zero_ext (s := s.extract p s.size) (k := k))
    generalize s.extract p s.size = r at *
    go_wp2_with fail
    refine HC.out.mono ?_
    rintro e w2 ⟨rfl, hb⟩
    have hb' := (drewN_below w1 n).trans (hb.mono (Nat.le_refl _))
    have HT2 := Lib.hid (HT1.out.below hb')
    have HB2 : Hid (Below w.heap.size w w2) := HB1.out.trans (hb'.mono HB1.out.size)
    clear hb hb'
    have c0 := HT2.out.c0
    have c1 := HT2.out.c1
    have c2 := HT2.out.c2
    have c3 := HT2.out.c3
    have f0 := HT2.out.fr 0
    have f1 := HT2.out.fr 1
    have f2 := HT2.out.fr 2
    have f3 := HT2.out.fr 3
    go_wp2_with fail
    refine bodyPost_ret (TkB.res3 rfl _ rfl (HT2.out.all _ _ _ _)) rfl ?_
    refine ⟨?_, below_all HB2.out (Nat.le_refl _) _ _ _ _⟩
    rw [signR, HKK.out, if_neg HH.out, if_neg HH.out, ← HX.out, tkV, ← HZ.out]
    rfl

set_option maxHeartbeats 800000 in
set_option maxRecDepth 20000 in
theorem word_any (w : World) (s : ByteArray) (hs : s.size ≤ 140737488351232) (hK : KwAt w) :
    Calls Tryd.prog 35 #[.string s] w fun e w' => e = .returned (wordR s.data.toList) ∧ Below w.heap.size w w' := by
  have HW := Lib.hid (fun W => wordSize_any s W hs)
  have HKW := Lib.hid hK
  obtain ⟨m, hm⟩ : ∃ m, s.data.toList = m := ⟨_, rfl⟩
  obtain ⟨k, hk⟩ : ∃ k, wsz m = k := ⟨_, rfl⟩
  have hks : k ≤ s.size := by
    have := wsz_le m
    have e : s.data.toList.length = s.size := rfl
    rw [hk, ← hm, e] at this
    exact this
  have hks' : (k : Int) ≤ (s.size : Int) := by omega
  rw [hm] at HW ⊢
  rw [hk] at HW
  have HM := Lib.hid hm
  have HKK := Lib.hid hk
  clear hm hk hK
  go_enter Tryd.func35, Tryd.ntmps35
  go_wp2_with fail
  obtain ⟨W0, hW0⟩ : ∃ W0, W0 = w.alloc (.cells #[.int .i64 0, .string ⟨#[]⟩, .int .i64 0, .int .i64 0] 31) := ⟨_, rfl⟩
  rw [← hW0]
  have HT0 : Hid (TkB W0 w.heap.size (.int .i64 0) (.string ⟨#[]⟩) (.int .i64 0) (.int .i64 0)) := by rw [hW0]; exact TkB.new _ _ _ _ _
  have HB0 : Hid (Below w.heap.size w W0) := by rw [hW0]; exact (Below.refl _ w).alloc (Nat.le_refl _) _
  clear hW0
  refine (HW.out W0).mono ?_
  rintro e w1 ⟨rfl, rfl⟩
  by_cases h0 : 24 < k
  · have h0' : (24 : Int) < k := by omega
    have HH := Lib.hid h0
    have c0 := HT0.out.c0
    have c1 := HT0.out.c1
    have c2 := HT0.out.c2
    have c3 := HT0.out.c3
    have f0 := HT0.out.fr 0
    have f1 := HT0.out.fr 1
    have f2 := HT0.out.fr 2
    have f3 := HT0.out.fr 3
    go_wp2_with fail
    refine bodyPost_ret (TkB.res3 rfl _ rfl (HT0.out.all _ _ _ _)) rfl ?_
    refine ⟨?_, below_all HB0.out (Nat.le_refl _) _ _ _ _⟩
    rw [wordR, HKK.out, if_pos HH.out, if_pos HH.out, if_pos HH.out]
    rfl
  · have h0' : ¬ (24 : Int) < k := by omega
    have HH := Lib.hid h0
    have hx : Hid ((s.extract 0 k).size ≤ 140737488351232) := by
      show _ ≤ _
      rw [ByteArray.size_extract]
      omega
    have HC := Lib.hid (clone_any (s.extract 0 k) W0 hx.out)
    have HZ := Lib.hid (zero_ext (s := s) (k := k))
    have HIK := Lib.hid (fun W hK => isKw_any (s.extract 0 k) W hK)
    have e1 : (s.extract 0 k).data.toList = m.take k := by rw [extract_list, HM.out]
    rw [e1] at HIK
    clear e1 h0
    go_wp2_with fail
    refine HC.out.mono ?_
    rintro e w2 ⟨rfl, hb⟩
    have HT2 := Lib.hid (HT0.out.below hb)
    have HB2 : Hid (Below w.heap.size w w2) := HB0.out.trans (hb.mono HB0.out.size)
    clear hb
    generalize s.extract 0 k = r at *
    go_wp2_with fail
    obtain ⟨W3, hW3⟩ : ∃ W3, W3 = w2.alloc (.cells #[.int .i64 1, .string r, .int .i64 0, .int .i64 0] 31) := ⟨_, rfl⟩
    rw [← hW3]
    have HT3 : Hid (TkB W3 w2.heap.size (.int .i64 1) (.string r) (.int .i64 0) (.int .i64 0)) := by rw [hW3]; exact TkB.new _ _ _ _ _
    have HT4 : Hid (TkB W3 w.heap.size (.int .i64 0) (.string ⟨#[]⟩) (.int .i64 0) (.int .i64 0)) := by rw [hW3]; exact HT2.out.alloc _
    have HB3 : Hid (Below w.heap.size w W3) := by rw [hW3]; exact HB2.out.alloc HB2.out.size _
    have HNE : w.heap.size ≤ w2.heap.size ∧ w.heap.size ≠ w2.heap.size := ⟨HB2.out.size, by have := HT2.out.lt; omega⟩
    clear hW3
    have HTW := HT4
    refine (HIK.out W3 (HKW.out.below HB3.out)).mono ?_
    rintro e w4 ⟨rfl, rfl⟩
    obtain ⟨g1, hg1⟩ : ∃ g1, w.heap.size = g1 := ⟨_, rfl⟩
    obtain ⟨g2, hg2⟩ : ∃ g2, w2.heap.size = g2 := ⟨_, rfl⟩
    rw [hg2] at HT3 HNE ⊢
    have HL : Hid (w.heap.size ≤ g1) := by rw [hg1]; exact Nat.le_refl _
    rw [hg1] at HTW HNE ⊢
    have HBB := HB3
    clear hg1 hg2 HT4 HT2 HT0 HB0 HB2 HB3
    obtain ⟨hle, hne⟩ := HNE
    have hne2 : ¬ g1 = g2 := hne
    have hne3 : ¬ g2 = g1 := fun e => hne e.symm
    obtain ⟨d, hd⟩ : ∃ d, isKw (m.take k) = d := ⟨_, rfl⟩
    rw [hd]
    have HD := Lib.hid hd
    clear hd
    have c0 := HTW.out.c0
    have c1 := HTW.out.c1
    have c2 := HTW.out.c2
    have c3 := HTW.out.c3
    have f0 := HTW.out.fr 0
    have f1 := HTW.out.fr 1
    have f2 := HTW.out.fr 2
    have f3 := HTW.out.fr 3
    have d0 := HT3.out.c0
    have d1 := HT3.out.c1
    have d2 := HT3.out.c2
    have d3 := HT3.out.c3
    have e0 := HT3.out.fr 0
    cases d
    · go_wp2_with fail
      refine bodyPost_ret (TkB.res3 rfl _ rfl (HTW.out.all _ _ _ _)) rfl ?_
      refine ⟨?_, below_all HBB.out HL.out _ _ _ _⟩
      rw [wordR, HKK.out, if_neg HH.out, if_neg HH.out, if_neg HH.out, HD.out, ← HM.out, tkV, ← HZ.out]
      rfl
    · go_wp2_with fail
      refine bodyPost_ret (TkB.res3 rfl _ rfl ((show TkB _ g1 _ _ _ _ from (Below.heap_setCell W3 ⟨g2, 0, none⟩ _ g1 hne).trans HTW.out).all _ _ _ _)) rfl ?_
      refine ⟨?_, below_all (HBB.out.setCell (p := ⟨g2, 0, none⟩) (Nat.le_trans HL.out hle) _) HL.out _ _ _ _⟩
      rw [wordR, HKK.out, if_neg HH.out, if_neg HH.out, if_neg HH.out, HD.out, ← HM.out, tkV, ← HZ.out]
      rfl

def intR (m : List UInt8) : Value :=
  .tuple #[if pE m = 0 then (if dgK m < wdK m then tkV noTk else tkV ⟨3, [], pV m, 0⟩) else tkV noTk,
    .int .i64 (if pE m = 0 then (if dgK m < wdK m then 0 else dgK m) else 0), .int .i64 (if pE m = 0 then (if dgK m < wdK m then 4 else 0) else pE m)]

theorem dgK_lt : ∀ m : List UInt8, dgK m < wdK m ↔ ∃ c, m[dgK m]? = some c ∧ isLt c = true
  | [] => by simp [dgK, wdK]
  | c :: r => by
    have ih := dgK_lt r
    by_cases h : isDg c = true
    · have h2 : isWd c = true := by simp [isWd, h]
      unfold dgK wdK
      rw [if_pos h, if_pos h2, List.getElem?_cons_succ, ← ih]
      omega
    · have e : dgK (c :: r) = 0 := by unfold dgK; rw [if_neg h]
      rw [e]
      unfold wdK
      have h3 : isDg c = false := by simpa using h
      have e2 : isWd c = isLt c := by simp [isWd, h3]
      rw [e2]
      cases hh : isLt c <;> simp [hh]

theorem errAt_below {w w' : World} (h : ErrAt w) (hb : Below w.heap.size w w') : ErrAt w' := by
  obtain ⟨tp, p, hc⟩ := h
  exact ⟨tp, p, by rw [hb.cell (World.block_lt_of_cell? w _ hc)]; exact hc⟩

theorem pN_ok {m : List UInt8} (h : pE m = 0) : pN m = (dgK m : Int) := by unfold pN; rw [if_pos h]

set_option maxHeartbeats 800000 in
set_option maxRecDepth 20000 in
theorem integer_any (w : World) (s : ByteArray) (hs : s.size ≤ 140737488351232) (hE : ErrAt w) :
    Calls Tryd.prog 36 #[.string s] w fun e w' => e = .returned (intR s.data.toList) ∧ Below w.heap.size w w' := by
  have HP := Lib.hid (fun W hE => parse_any s W hs hE)
  have HER := Lib.hid hE
  have HPN := Lib.hid (pN_ok (m := s.data.toList))
  have HDL := Lib.hid (dgK_lt s.data.toList)
  have HDK : Hid (dgK s.data.toList ≤ s.size) := Lib.hid (by simpa using dgK_le s.data.toList)
  have hlen : s.data.toList.length = s.size := rfl
  have HGET : Hid (∀ (k : Nat) (hk : k < s.size), s.data.toList[k]? = some s[k]) := fun k hk => by rw [List.getElem?_eq_getElem (by rw [hlen]; exact hk)]; rfl
  obtain ⟨x, hx⟩ : ∃ x, pE s.data.toList = x := ⟨_, rfl⟩
  obtain ⟨v, hv⟩ : ∃ v, pV s.data.toList = v := ⟨_, rfl⟩
  obtain ⟨pn, hpn⟩ : ∃ pn, pN s.data.toList = pn := ⟨_, rfl⟩
  obtain ⟨n, hn⟩ : ∃ n, dgK s.data.toList = n := ⟨_, rfl⟩
  obtain ⟨z, hz⟩ : ∃ z, wdK s.data.toList = z := ⟨_, rfl⟩
  rw [hx, hv, hpn] at HP
  rw [hx, hpn, hn] at HPN
  rw [hn, hz] at HDL
  rw [hn] at HDK
  have HIR : Hid (intR s.data.toList = .tuple #[if x = 0 then (if n < z then tkV noTk else tkV ⟨3, [], v, 0⟩) else tkV noTk,
    .int .i64 (if x = 0 then (if n < z then 0 else n) else 0), .int .i64 (if x = 0 then (if n < z then 4 else 0) else x)]) := by
    show intR _ = _
    rw [intR, hx, hv, hn, hz]
  have HNS := HDK.out
  clear hx hv hpn hn hz hE hlen
  go_enter Tryd.func36, Tryd.ntmps36
  go_wp2_with fail
  obtain ⟨W0, hW0⟩ : ∃ W0, W0 = w.alloc (.cells #[.int .i64 0, .string ⟨#[]⟩, .int .i64 0, .int .i64 0] 31) := ⟨_, rfl⟩
  rw [← hW0]
  have HT0 : Hid (TkB W0 w.heap.size (.int .i64 0) (.string ⟨#[]⟩) (.int .i64 0) (.int .i64 0)) := by rw [hW0]; exact TkB.new _ _ _ _ _
  have HB0 : Hid (Below w.heap.size w W0) := by rw [hW0]; exact (Below.refl _ w).alloc (Nat.le_refl _) _
  clear hW0
  refine (HP.out W0 (errAt_below HER.out HB0.out)).mono ?_
  rintro e w1 ⟨rfl, hb⟩
  have HT1 := Lib.hid (HT0.out.below hb)
  have HB1 : Hid (Below w.heap.size w w1) := HB0.out.trans (hb.mono HB0.out.size)
  clear hb
  have c0 := HT1.out.c0
  have c1 := HT1.out.c1
  have c2 := HT1.out.c2
  have c3 := HT1.out.c3
  have f0 := HT1.out.fr 0
  have f1 := HT1.out.fr 1
  have f2 := HT1.out.fr 2
  have f3 := HT1.out.fr 3
  by_cases hx0 : x = 0
  · subst hx0
    obtain rfl : pn = (n : Int) := HPN.out rfl
    by_cases hns : n < s.size
    · have hns' : (n : Int) < s.size := by omega
      have HLT : Hid (n < z ↔ isLt s[n] = true) := by
        show _ ↔ _
        rw [HDL.out, HGET.out n hns]
        simp
      have HLE := Lib.hid (fun W => letter_any s[n] W)
      obtain ⟨d, hd⟩ : ∃ d, isLt s[n] = d := ⟨_, rfl⟩
      rw [hd] at HLT HLE
      clear hd
      go_wp2_with fail
      refine (HLE.out w1).mono ?_
      rintro e w2 ⟨rfl, rfl⟩
      cases d
      · have hnz : ¬ n < z := by rw [HLT.out]; decide
        have HNZ := Lib.hid hnz
        clear hnz
        go_wp2_with fail
        refine bodyPost_ret (TkB.res3 rfl _ rfl (HT1.out.all _ _ _ _)) rfl ?_
        refine ⟨?_, below_all HB1.out (Nat.le_refl _) _ _ _ _⟩
        rw [HIR.out, if_pos trivial, if_pos trivial, if_pos trivial, if_neg HNZ.out, if_neg HNZ.out, if_neg HNZ.out]
        rfl
      · have hnz : n < z := by rw [HLT.out]
        have HNZ := Lib.hid hnz
        clear hnz
        go_wp2_with fail
        refine bodyPost_ret (TkB.res3 rfl _ rfl (HT1.out.all _ _ _ _)) rfl ?_
        refine ⟨?_, below_all HB1.out (Nat.le_refl _) _ _ _ _⟩
        rw [HIR.out, if_pos trivial, if_pos trivial, if_pos trivial, if_pos HNZ.out, if_pos HNZ.out, if_pos HNZ.out]
        rfl
    · have hns' : ¬ (n : Int) < s.size := by omega
      have HNZ : Hid (¬ n < z) := by
        show ¬ _
        rw [HDL.out]
        rintro ⟨c, hc, _⟩
        have := (List.getElem?_eq_some_iff.1 hc).1
        exact hns this
      go_wp2_with fail
      refine bodyPost_ret (TkB.res3 rfl _ rfl (HT1.out.all _ _ _ _)) rfl ?_
      refine ⟨?_, below_all HB1.out (Nat.le_refl _) _ _ _ _⟩
      rw [HIR.out, if_pos trivial, if_pos trivial, if_pos trivial, if_neg HNZ.out, if_neg HNZ.out, if_neg HNZ.out]
      rfl
  · have hx1 : (x == 0) = false := by simpa using hx0
    have HX0 := Lib.hid hx0
    clear hx0
    go_wp2_with fail
    refine bodyPost_ret (TkB.res3 rfl _ rfl (HT1.out.all _ _ _ _)) rfl ?_
    refine ⟨?_, below_all HB1.out (Nat.le_refl _) _ _ _ _⟩
    rw [HIR.out, if_neg HX0.out, if_neg HX0.out, if_neg HX0.out]
    rfl

end Go.Proofs.YtkbfbcfgjgpfgaaDoor
