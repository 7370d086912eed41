/-
  scan.Tokens.
-/
import Derived.Test.YtkbfbcfgjgpfgaaDoorScZ
import Derived.RegionTactic
namespace Go.Proofs.YtkbfbcfgjgpfgaaDoor
open Go.RowKit

theorem tkT_kind {m : List UInt8} (h : m ≠ []) (q : Int) : (tkT m q).kind ≠ 5 := by
  cases m with
  | nil => exact absurd rfl h
  | cons c r =>
    rw [tkT_cons]
    split
    · show (if _ then (2 : Int) else 1) ≠ 5
      split <;> decide
    · split
      · exact (by decide : (3 : Int) ≠ 5)
      · exact (by decide : (4 : Int) ≠ 5)

theorem tkS_pos' {m : List UInt8} (h0 : m ≠ []) (h : tkE m = 0) : 0 < tkS m := by
  cases m with
  | nil => exact absurd rfl h0
  | cons c r => exact tkS_pos h

set_option maxHeartbeats 3200000 in
set_option maxRecDepth 20000 in
theorem tokens_any (w : World) (s : ByteArray) (hK : KwAt w) (hE : ErrAt w) :
    Calls Tryd.prog 8 #[.string s] w fun e w' => ∃ v, e = .returned (.tuple #[v, .agg #[.int .i64 (scF s.data.toList).2.1, .int .i64 (scF s.data.toList).2.2]]) ∧ TkRow w' w.heap.size v (scF s.data.toList).1 ∧ Below w.heap.size w w' := by
  have hlen : s.data.toList.length = s.size := rfl
  have HKW := Lib.hid hK
  have HER := Lib.hid hE
  obtain ⟨R, hR⟩ : ∃ R, scF s.data.toList = R := ⟨_, rfl⟩
  rw [hR]
  have HR := Lib.hid hR
  clear hK hE hR
  obtain ⟨g0, hg0⟩ : ∃ g0, g0 = w.heap.size := ⟨_, rfl⟩
  obtain ⟨W0, hW0⟩ : ∃ W0, W0 = w.alloc (.cells #[.int .i64 0, .int .i64 0] 26) := ⟨_, rfl⟩
  have HF0 : Hid (FtB W0 g0 (.int .i64 0) (.int .i64 0)) := by rw [hW0, hg0]; exact FtB.new _ _ _
  have HB0 : Hid (Below w.heap.size w W0) := by rw [hW0]; exact (Below.refl _ w).alloc (Nat.le_refl _) _
  have hgw : w.heap.size ≤ g0 := by omega
  by_cases hl : 16384 < s.size
  · have hl' : (16384 : Int) < s.size := by omega
    have HRR : Hid (R = ([], 2, -1)) := by
      show _ = _
      rw [← HR.out, scF, if_pos (by rw [hlen]; exact hl)]
    clear hlen HR
    go_enter Tryd.func8, Tryd.ntmps8
    go_upto_region 1 with fail
    rw [← hW0, ← hg0]
    clear hW0 hg0
    have c0 := HF0.out.c0
    have c1 := HF0.out.c1
    have f0 := HF0.out.fr 0
    have f1 := HF0.out.fr 1
    go_wp2_with fail
    refine bodyPost_ret (FtB.res rfl _ rfl (HF0.out.all _ _)) rfl ?_
    refine ⟨.slice none 0 0, ?_, ?_, below_two HB0.out hgw _ _⟩
    · rw [HRR.out]; rfl
    · rw [HRR.out]; exact TkRow.nil _ _
  · have hl' : ¬ (16384 : Int) < s.size := by omega
    have HRR : Hid (scA (s.size + 1) 0 [] s.data.toList = R) := by
      show _ = _
      rw [← HR.out, scF, if_neg (by rw [hlen]; exact hl), hlen]
    clear HR
    go_enter Tryd.func8, Tryd.ntmps8
    go_upto_region 1 with fail
    rw [← hW0, ← hg0]
    clear hW0
    go_upto_region 4 with fail
    obtain ⟨b, hb⟩ : ∃ b, b = W0.heap.size := ⟨_, rfl⟩
    obtain ⟨W1, hW1⟩ : ∃ W1, W1 = W0.alloc (.cells #[.int .i64 0, .string s] 39) := ⟨_, rfl⟩
    rw [← hW1, ← hb]
    have HS1 : Hid (Scn W1 b 0 s) := by rw [hW1, hb]; exact heap_alloc_new W0 _
    have HF1 : Hid (FtB W1 g0 (.int .i64 0) (.int .i64 0)) := by rw [hW1]; exact HF0.out.alloc _
    have HB1 : Hid (Below w.heap.size w W1) := by rw [hW1]; exact HB0.out.alloc HB0.out.size _
    have hbw : w.heap.size ≤ b := by have := HF0.out.lt; omega
    have hbg : ¬ g0 = b := by have := HF0.out.lt; omega
    have HNE : Hid (0 ≠ b ∧ 3 ≠ b) := ⟨by have := HKW.out.lt; omega, by have := ErrAt.lt HER.out; omega⟩
    clear hW1 hb hg0 HF0 HB0
    go_wp2_with fail
    go_loopw [5] (fun lv wr => ∃ (p f : Nat) (xs : List Tk), p ≤ s.size ∧ xs.length ≤ p ∧ Hid (Scn wr b p s) ∧ Hid (TkRow wr w.heap.size lv xs) ∧ Hid (FtB wr g0 (.int .i64 0) (.int .i64 0)) ∧ Hid (scA f p xs (s.data.toList.drop p) = R) ∧ Hid ((s.data.toList.drop p).length < f) ∧ Hid (Below w.heap.size w wr)) (fun _ wr => s.size - posOf wr b)
    case atStart => exact ⟨0, s.size + 1, [], Nat.zero_le _, Nat.zero_le _, HS1, TkRow.nil _ _, HF1, by rw [List.drop_zero]; exact HRR, by show _ < _; rw [List.drop_zero, hlen]; omega, HB1⟩
    case round =>
      obtain ⟨p, f, xs, hp, hxp, HS, HT, HF, HA, HL, HB⟩ := hrel
      obtain ⟨q, hq⟩ : ∃ q, q = p + blK false (s.data.toList.drop p) := ⟨_, rfl⟩
      obtain ⟨m, hm⟩ : ∃ m, m = s.data.toList.drop q := ⟨_, rfl⟩
      have hqs : q ≤ s.size := by
        have := blK_le false (s.data.toList.drop p)
        rw [List.length_drop, hlen] at this
        omega
      have hpq : p ≤ q := by omega
      have hts : q + tkS m ≤ s.size := by
        have := tkS_le m
        rw [hm, List.length_drop, hlen, ← hm] at this
        omega
      have HTAKE := Lib.hid (take_any wr b p s HS.out hp (by omega) (HKW.out.below HB.out) (errAt_below HER.out HB.out) HNE.out.1 HNE.out.2 q hq m hm)
      have hdm : Hid ((s.data.toList.drop p).drop (blK false (s.data.toList.drop p)) = m) := by
        show _ = _
        rw [List.drop_drop, hm, hq]
      have HMQ := Lib.hid hm
      have HQ := Lib.hid hq
      clear hm hq
      obtain ⟨f, rfl⟩ : ∃ f', f = f' + 1 := ⟨f - 1, by have := HL.out; omega⟩
      obtain ⟨t, ht, ht2⟩ := takeR_form m q
      obtain ⟨X, hX⟩ : ∃ X, txV t.text = .string X := ⟨_, rfl⟩
      have HX := Lib.hid hX
      rw [ht, hX] at HTAKE
      have HTT := Lib.hid ht2
      clear ht ht2 hX
      go_wp2_with fail
      refine HTAKE.out.mono ?_
      rintro e w1 ⟨rfl, hs1, hm1⟩
      have HS2 := Lib.hid hs1
      have HM1 := Lib.hid hm1
      have HT2 := Lib.hid (HT.out.mv hm1 HS.out (by decide))
      have HF2 := Lib.hid (HF.out.grown hm1 (by simpa using hbg))
      have HB2 := Lib.hid (hm1.belowB HB.out hbw HB.out.size)
      clear hs1 hm1 HTAKE
      obtain ⟨W2, hW2⟩ : ∃ W2, W2 = w1.alloc (.cells #[.int .i64 t.kind, .string X, .int .i64 t.num, .int .i64 t.at_] 31) := ⟨_, rfl⟩
      obtain ⟨g6, hg6⟩ : ∃ g6, g6 = w1.heap.size := ⟨_, rfl⟩
      have HG6 : Hid (TkB W2 g6 (.int .i64 t.kind) (.string X) (.int .i64 t.num) (.int .i64 t.at_)) := by rw [hW2, hg6]; exact TkB.new _ _ _ _ _
      have HS3 : Hid (Scn W2 b (nextP m q) s) := by rw [hW2]; exact HS2.out.alloc _
      have HT3 : Hid (TkRow W2 w.heap.size u5 xs) := by rw [hW2]; exact HT2.out.alloc _
      have HF3 : Hid (FtB W2 g0 (.int .i64 0) (.int .i64 0)) := by rw [hW2]; exact HF2.out.alloc _
      have HB3 : Hid (Below w.heap.size w W2) := by rw [hW2]; exact HB2.out.alloc HB2.out.size _
      obtain ⟨c, hc⟩ : ∃ c, tkE m = c := ⟨_, rfl⟩
      rw [hc]
      go_upto_region 6 with fail
      rw [← hW2, ← hg6]
      have HG6n : Hid (some g6 ≠ u5.ownBlock) := by
        intro e
        have := (HT2.out.lt g6 e.symm).2
        omega
      have HG0n : Hid (some g0 ≠ u5.ownBlock) := fun e => HT3.out.ne HF3.out (by decide) e.symm
      have HGBn : Hid (some b ≠ u5.ownBlock) := fun e => HT3.out.ne HS3.out (by decide) e.symm
      clear hW2 hg6
      by_cases hc0 : c = 0
      · subst hc0
        have HN : Hid (nextP m q = q + tkS m) := by show _ = _; rw [nextP, hc, if_pos rfl]
        have HTM : Hid (t = tkT m q) := by show _ = _; rw [HTT.out, hc, if_pos rfl]
        have HCC := Lib.hid hc
        have d0 := HG6.out.c0
        have d1 := HG6.out.c1
        have d2 := HG6.out.c2
        have d3 := HG6.out.c3
        clear hc
        go_wp2_with (at_builtin; refine wpl_append_tk rfl (.tmp 25) (.tmp 27) rfl w.heap.size _ xs rfl HT3.out t X HX.out rfl (by omega) HB3.out.size ?_)
        intro v' w3 hrow hgr
        have HR3 := Lib.hid hrow
        have hgr2 : W2.grownBy w3 u5.ownBlock := (World.grownBy_alloc W2 _ _).trans hgr
        have HG6' := (HG6.out : TkB _ _ _ _ _ _)
        have e0 : w3.cell? ⟨g6, 0, none⟩ = some (.int .i64 t.kind) := by rw [World.cell?_of_block (w := W2) (hgr2.block g6 HG6'.lt HG6n.out)]; exact d0
        have HS4 : Hid (Scn w3 b (q + tkS m) s) := by
          rw [← HN.out]
          exact (hgr2.block b HS3.out.lt HGBn.out).trans HS3.out
        have HF4 := Lib.hid (HF3.out.grown hgr2 HG0n.out)
        have HB4 : Hid (Below w.heap.size w w3) := HB3.out.grown hgr2 HB3.out.size (fun k hk => (HT3.out.lt k hk).1)
        clear hrow hgr hgr2 HG6' d0 d1 d2 d3
        by_cases hm0 : m = []
        · have hk : (t.kind == 5) = true := by rw [HTM.out, hm0]; rfl
          have HRR2 : Hid (R = (xs ++ [t], 0, 0)) := by
            show _ = _
            rw [← HA.out, scA_end (by rw [hdm.out]; exact hm0), HTM.out, hm0, ← HQ.out]
            rfl
          have c0 := HF4.out.c0
          have c1 := HF4.out.c1
          have f0 := HF4.out.fr 0
          have f1 := HF4.out.fr 1
          clear hm0
          go_wp2_with fail
          refine bodyPost_ret (FtB.res rfl _ rfl (HF4.out.all _ _)) rfl ?_
          refine ⟨v', ?_, ?_, below_two HB4.out hgw _ _⟩
          · rw [HRR2.out]; rfl
          · rw [HRR2.out]
            exact HR3.out.grown (((Mv.refl g0 w3).set 0 _).set 1 _) (.inr (HR3.out.ne HF4.out (by decide)))
        · have hk : (t.kind == 5) = false := by rw [HTM.out, beq_eq_false_iff_ne]; exact tkT_kind hm0 q
          have hpos : 0 < tkS m := tkS_pos' hm0 HCC.out
          have HA4 : Hid (scA f (q + tkS m) (xs ++ [t]) (s.data.toList.drop (q + tkS m)) = R) := by
            show _ = _
            rw [← HA.out, scA_step hdm.out hm0 HCC.out, HTM.out, ← HQ.out, HMQ.out, List.drop_drop]
          have HL4 : Hid ((s.data.toList.drop (q + tkS m)).length < f) := by
            show _ < _
            have := HL.out
            rw [List.length_drop, hlen] at this ⊢
            omega
          have hxs : (xs ++ [t]).length ≤ q + tkS m := by rw [List.length_append]; simp; omega
          clear hm0
          go_wp2_with fail
          go_roundw
          case rel => exact ⟨q + tkS m, f, xs ++ [t], hts, hxs, HS4, HR3, HF4, HA4, HL4, HB4⟩
          case measure =>
            rw [HS4.out.pos, HS.out.pos]
            omega
      · have hc1 : (c == 0) = false := by simpa using hc0
        have HRR2 : Hid (R = ([], c, (q : Int))) := by
          show _ = _
          rw [← HA.out, scA_bad hdm.out (fun e => hc0 (by rw [← hc, e]; rfl)) (by rw [hc]; exact hc0), hc, HQ.out]
        have HN : Hid (nextP m q = q) := by show _ = _; rw [nextP, hc, if_neg hc0]
        have s0 := HS3.out.c0
        rw [HN.out] at s0
        have c0 := HF3.out.c0
        have c1 := HF3.out.c1
        have f0 := HF3.out.fr 0
        have f1 := HF3.out.fr 1
        clear hc hc0
        go_wp2_with fail
        go_region
        all_goals
          go_wp2_with fail
          refine bodyPost_ret (FtB.res rfl _ rfl (HF3.out.all _ _)) rfl ?_
          refine ⟨.slice none 0 0, ?_, ?_, (below_two HB3.out hgw _ _).drew⟩
          · rw [HRR2.out]; rfl
          · rw [HRR2.out]; exact TkRow.nil _ _

end Go.Proofs.YtkbfbcfgjgpfgaaDoor
