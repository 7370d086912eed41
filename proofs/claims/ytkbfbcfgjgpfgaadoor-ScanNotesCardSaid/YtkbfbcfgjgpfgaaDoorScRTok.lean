/-
  The document's Tokens.
-/
import Derived.Test.YtkbfbcfgjgpfgaaDoorScRT
namespace Go.Proofs.YtkbfbcfgjgpfgaaDoor
open Go.RowKit

theorem scA_skip (f p : Nat) (acc : List Tk) (l : List UInt8) : scA (f + 1) p acc l = scA (f + 1) (p + blK false l) acc (l.drop (blK false l)) := by
  have h := blK_rest false l
  rw [scA, scA]
  simp only [h, List.drop_zero, Nat.add_zero]

theorem rtokR_form (m : List UInt8) (q : Nat) : ∃ t : Tk, rtokR m q = .tuple #[.agg #[.int .i64 t.kind, txV t.text, .int .i64 t.num, .int .i64 t.at_], .int .i64 (if tkE m = 0 then (tkS m : Int) else 0), .int .i64 (tkE m)] ∧ t = if tkE m = 0 then tkT m q else noTk := by
  refine ⟨_, ?_, rfl⟩
  rw [rtokR]
  by_cases h : tkE m = 0
  · rw [if_pos h, if_pos h, if_pos h]; rfl
  · rw [if_neg h, if_neg h, if_neg h]; rfl

theorem tkS_pos2 {m : List UInt8} (h0 : m ≠ []) (h : tkE m = 0) : 0 < tkS m := by
  cases m with
  | nil => exact absurd rfl h0
  | cons c r => exact tkS_pos h

set_option maxHeartbeats 3200000 in
set_option maxRecDepth 20000 in
theorem rtokens_any (w : World) (s : ByteArray) :
    Calls Tryd.prog 9 #[.string s] w fun e w' => ∃ v, e = .returned (.tuple #[v, .agg #[.int .i64 (scF s.data.toList).2.1, .int .i64 (scF s.data.toList).2.2]]) ∧ TkRow w' w.heap.size v (scF s.data.toList).1 ∧ Below w.heap.size w w' := by
  have hlen : s.data.toList.length = s.size := rfl
  obtain ⟨R, hR⟩ : ∃ R, scF s.data.toList = R := ⟨_, rfl⟩
  rw [hR]
  have HR := Lib.hid hR
  clear hR
  obtain ⟨g0, hg0⟩ : ∃ g0, g0 = w.heap.size := ⟨_, rfl⟩
  obtain ⟨W0, hW0⟩ : ∃ W0, W0 = w.alloc (.cells #[.int .i64 0, .int .i64 0] 26) := ⟨_, rfl⟩
  have HF0 : Hid (FtB W0 g0 (.int .i64 0) (.int .i64 0)) := by rw [hW0, hg0]; exact FtB.new _ _ _
  have HB0 : Hid (Below w.heap.size w W0) := by rw [hW0]; exact (Below.refl _ w).alloc (Nat.le_refl _) _
  have hgw : w.heap.size ≤ g0 := by omega
  by_cases hl : 16384 < s.size
  · have hl' : (16384 : Int) < s.size := by omega
    have HRR : Hid (R = ([], 2, -1)) := by
      show _ = _
      rw [← HR.out, scF, if_pos (by rw [hlen]; exact hl)]
    clear hlen HR
    go_enter Tryd.func9, Tryd.ntmps9
    go_upto_region 1 with fail
    rw [← hW0, ← hg0]
    clear hW0 hg0
    have c0 := HF0.out.c0
    have c1 := HF0.out.c1
    have f0 := HF0.out.fr 0
    have f1 := HF0.out.fr 1
    go_wp2_with fail
    refine bodyPost_ret (FtB.res rfl _ rfl (HF0.out.all _ _)) rfl ?_
    refine ⟨.slice none 0 0, ?_, ?_, below_two HB0.out hgw _ _⟩
    · rw [HRR.out]; rfl
    · rw [HRR.out]; exact TkRow.nil _ _
  · have hl' : ¬ (16384 : Int) < s.size := by omega
    have HBL := Lib.hid (fun q W hq => rblanks_any s q W (by omega) hq)
    have HTO := Lib.hid (fun q W hq => rtoken_any s q W (by omega) hq)
    obtain ⟨q0, hq0⟩ : ∃ q0, q0 = blK false s.data.toList := ⟨_, rfl⟩
    have hq0s : q0 ≤ s.size := by rw [hq0, ← hlen]; exact blK_le _ _
    have HRR : Hid (scA (s.size + 1) q0 [] (s.data.toList.drop q0) = R) := by
      show _ = _
      rw [← HR.out, scF, if_neg (by rw [hlen]; exact hl), hlen, scA_skip s.size 0, ← hq0, Nat.zero_add]
    have HZ0 : Hid (blK false (s.data.toList.drop q0) = 0) := by show _ = _; rw [hq0]; exact blK_rest _ _
    have HL0 : Hid ((s.data.toList.drop q0).length < s.size + 1) := by
      show _ < _
      rw [List.length_drop, hlen]
      omega
    have HB00 := Lib.hid (HBL.out 0 W0 (Nat.zero_le _))
    rw [List.drop_zero, ← hq0, Nat.zero_add] at HB00
    clear HR hq0
    go_enter Tryd.func9, Tryd.ntmps9
    go_upto_region 1 with fail
    rw [← hW0, ← hg0]
    clear hW0 hg0
    go_wp2_with fail
    refine HB00.out.mono ?_
    rintro e w1 ⟨rfl, rfl⟩
    go_wp2_with fail
    go_loopw [4, 5] (fun lv av wr => ∃ (q f : Nat) (xs : List Tk), q ≤ s.size ∧ xs.length ≤ q ∧ av = .int .i64 q ∧ Hid (blK false (s.data.toList.drop q) = 0) ∧ Hid (TkRow wr w.heap.size lv xs) ∧ Hid (FtB wr g0 (.int .i64 0) (.int .i64 0)) ∧ Hid (scA f q xs (s.data.toList.drop q) = R) ∧ Hid ((s.data.toList.drop q).length < f) ∧ Hid (Below w.heap.size w wr)) (fun _ av _ => s.size - (intOf av).toNat)
    case atStart => exact ⟨q0, s.size + 1, [], hq0s, Nat.zero_le _, rfl, HZ0, TkRow.nil _ _, HF0, HRR, HL0, HB0⟩
    case round =>
      obtain ⟨q, f, xs, hq, hxq, rfl, HZ, HT, HF, HA, HL, HB⟩ := hrel
      obtain ⟨m, hm⟩ : ∃ m, m = s.data.toList.drop q := ⟨_, rfl⟩
      have hdm : Hid ((s.data.toList.drop q).drop (blK false (s.data.toList.drop q)) = m) := by
        show _ = _
        rw [HZ.out, List.drop_zero, hm]
      obtain ⟨f, rfl⟩ : ∃ f', f = f' + 1 := ⟨f - 1, by have := HL.out; omega⟩
      have HGE := Lib.hid (HF.out.lt)
      by_cases hqs : q < s.size
      · have hqs' : (q : Int) < s.size := by omega
        have hm0 : m ≠ [] := by rw [hm, drop_cons s q hqs]; simp
        have hts : q + tkS m ≤ s.size := by
          have := tkS_le m
          rw [hm, List.length_drop, hlen, ← hm] at this
          omega
        have HTAKE := Lib.hid (HTO.out q wr hqs)
        rw [← hm] at HTAKE
        obtain ⟨t, ht, ht2⟩ := rtokR_form m q
        obtain ⟨X, hX⟩ : ∃ X, txV t.text = .string X := ⟨_, rfl⟩
        have HX := Lib.hid hX
        rw [ht, hX] at HTAKE
        have HTT := Lib.hid ht2
        have HM0 := Lib.hid hm0
        have HMQ := Lib.hid hm
        obtain ⟨c, hc⟩ : ∃ c, tkE m = c := ⟨_, rfl⟩
        obtain ⟨n, hn⟩ : ∃ n, (if tkE m = 0 then (tkS m : Int) else 0) = n := ⟨_, rfl⟩
        rw [hn, hc] at HTAKE
        have HN := Lib.hid hn
        clear ht ht2 hX hm hm0 hn
        go_wp2_with fail
        refine HTAKE.out.mono ?_
        rintro e w1 ⟨rfl, hb⟩
        have HT2 := Lib.hid (HT.out.below hb)
        have HF2 := Lib.hid (HF.out.below hb)
        have HB2 : Hid (Below w.heap.size w w1) := HB.out.trans (hb.mono HB.out.size)
        clear hb HTAKE
        obtain ⟨W2, hW2⟩ : ∃ W2, W2 = w1.alloc (.cells #[.int .i64 t.kind, .string X, .int .i64 t.num, .int .i64 t.at_] 31) := ⟨_, rfl⟩
        obtain ⟨g6, hg6⟩ : ∃ g6, g6 = w1.heap.size := ⟨_, rfl⟩
        have HG6 : Hid (TkB W2 g6 (.int .i64 t.kind) (.string X) (.int .i64 t.num) (.int .i64 t.at_)) := by rw [hW2, hg6]; exact TkB.new _ _ _ _ _
        have HT3 : Hid (TkRow W2 w.heap.size u4 xs) := by rw [hW2]; exact HT2.out.alloc _
        have HF3 : Hid (FtB W2 g0 (.int .i64 0) (.int .i64 0)) := by rw [hW2]; exact HF2.out.alloc _
        have HB3 : Hid (Below w.heap.size w W2) := by rw [hW2]; exact HB2.out.alloc HB2.out.size _
        go_upto_region 7 with fail
        rw [← hW2, ← hg6]
        have HG0n : Hid (some g0 ≠ u4.ownBlock) := fun e => HT3.out.ne HF3.out (by decide) e.symm
        clear hW2 hg6
        by_cases hc0 : c = 0
        · subst hc0
          have HNN : Hid (n = (tkS m : Int)) := by show _ = _; rw [← HN.out, hc, if_pos rfl]
          obtain rfl : n = (tkS m : Int) := HNN.out
          have HTM : Hid (t = tkT m q) := by show _ = _; rw [HTT.out, hc, if_pos rfl]
          have HCC := Lib.hid hc
          have d0 := HG6.out.c0
          have d1 := HG6.out.c1
          have d2 := HG6.out.c2
          have d3 := HG6.out.c3
          have hpos : 0 < tkS m := tkS_pos2 HM0.out HCC.out
          obtain ⟨r, hr⟩ : ∃ r, q + tkS m = r := ⟨_, rfl⟩
          have hz : (q : Int) + (tkS m : Int) = (r : Int) := by omega
          have hrs : r ≤ s.size := by omega
          have hqr : q < r := by omega
          obtain ⟨r2, hr2⟩ : ∃ r2, r2 = r + blK false (s.data.toList.drop r) := ⟨_, rfl⟩
          have hr2s : r2 ≤ s.size := by
            have := blK_le false (s.data.toList.drop r)
            rw [List.length_drop, hlen] at this
            omega
          have HBR := Lib.hid (fun W => HBL.out r W hrs)
          rw [← hr2] at HBR
          have HA4 : Hid (scA f r2 (xs ++ [t]) (s.data.toList.drop r2) = R) := by
            show _ = _
            obtain ⟨f', rfl⟩ : ∃ f', f = f' + 1 := ⟨f - 1, by have := HL.out; rw [List.length_drop, hlen] at this; omega⟩
            rw [← HA.out, scA_step hdm.out HM0.out HCC.out, HTM.out, HZ.out, HMQ.out, List.drop_drop]
            simp only [Nat.add_zero]
            rw [← HMQ.out, hr, scA_skip f' r, ← hr2, List.drop_drop, ← hr2]
          have HL4 : Hid ((s.data.toList.drop r2).length < f) := by
            show _ < _
            have := HL.out
            rw [List.length_drop, hlen] at this ⊢
            omega
          have HZ4 : Hid (blK false (s.data.toList.drop r2) = 0) := by
            show _ = _
            rw [hr2, ← List.drop_drop]
            exact blK_rest _ _
          have hqr2 : r ≤ r2 := by omega
          clear hc hr hr2
          go_wp2_with (at_builtin; refine wpl_append_tk rfl (.tmp 31) (.tmp 33) rfl w.heap.size _ xs rfl HT3.out t X HX.out rfl (by omega) HB3.out.size ?_)
          intro v' w3 hrow hgr
          have HR3 := Lib.hid hrow
          have hgr2 : W2.grownBy w3 u4.ownBlock := (World.grownBy_alloc W2 _ _).trans hgr
          have HF4 := Lib.hid (HF3.out.grown hgr2 HG0n.out)
          have HB4 : Hid (Below w.heap.size w w3) := HB3.out.grown hgr2 HB3.out.size (fun k hk => (HT3.out.lt k hk).1)
          clear hrow hgr hgr2 d0 d1 d2 d3
          go_wp2_with fail
          refine (HBR.out w3).mono ?_
          rintro e w4 ⟨rfl, rfl⟩
          have hxs : (xs ++ [t]).length ≤ r2 := by rw [List.length_append]; simp; omega
          go_wp2_with fail
          go_roundw
          case rel => exact ⟨r2, f, xs ++ [t], hr2s, hxs, rfl, HZ4, HR3, HF4, HA4, HL4, HB4⟩
          case measure => simp [intOf]; omega
        · have hc1 : (c == 0) = false := by simpa using hc0
          have HRR2 : Hid (R = ([], c, (q : Int))) := by
            show _ = _
            rw [← HA.out, scA_bad hdm.out HM0.out (by rw [hc]; exact hc0), hc, HZ.out]
            rfl
          have c0 := HF3.out.c0
          have c1 := HF3.out.c1
          have f0 := HF3.out.fr 0
          have f1 := HF3.out.fr 1
          clear hc hc0
          go_wp2_with fail
          refine bodyPost_ret (FtB.res rfl _ rfl (HF3.out.all _ _)) rfl ?_
          refine ⟨.slice none 0 0, ?_, ?_, below_two HB3.out hgw _ _⟩
          · rw [HRR2.out]; rfl
          · rw [HRR2.out]; exact TkRow.nil _ _
      · have hqs' : ¬ (q : Int) < s.size := by omega
        have hm0 : m = [] := by rw [hm]; exact List.drop_of_length_le (by rw [hlen]; omega)
        have HRR2 : Hid (R = (xs ++ [⟨5, [], 0, (s.size : Int)⟩], 0, 0)) := by
          show _ = _
          have e : q = s.size := by omega
          rw [← HA.out, scA_end (by rw [hdm.out]; exact hm0), HZ.out, e]
          rfl
        have HG0n : Hid (some g0 ≠ u4.ownBlock) := fun e => HT.out.ne HF.out (by decide) e.symm
        clear hm hm0
        go_wp2_with (at_builtin; refine wpl_append_tk rfl (.tmp 40) (.tmp 44) rfl w.heap.size _ xs rfl HT.out ⟨5, [], 0, (s.size : Int)⟩ ⟨#[]⟩ rfl rfl (by omega) HB.out.size ?_)
        intro v' w3 hrow hgr
        have HR3 := Lib.hid hrow
        have hgr2 : wr.grownBy w3 u4.ownBlock := (World.grownBy_alloc wr _ _).trans hgr
        have HF4 := Lib.hid (HF.out.grown hgr2 HG0n.out)
        have HB4 : Hid (Below w.heap.size w w3) := HB.out.grown hgr2 HB.out.size (fun k hk => (HT.out.lt k hk).1)
        clear hrow hgr hgr2
        have c0 := HF4.out.c0
        have c1 := HF4.out.c1
        have f0 := HF4.out.fr 0
        have f1 := HF4.out.fr 1
        go_wp2_with fail
        refine bodyPost_ret (FtB.res rfl _ rfl (HF4.out.all _ _)) rfl ?_
        refine ⟨v', ?_, ?_, below_two HB4.out hgw _ _⟩
        · rw [HRR2.out]; rfl
        · rw [HRR2.out]
          exact HR3.out.grown (((Mv.refl g0 w3).set 0 _).set 1 _) (.inr (HR3.out.ne HF4.out (by decide)))

end Go.Proofs.YtkbfbcfgjgpfgaaDoor
