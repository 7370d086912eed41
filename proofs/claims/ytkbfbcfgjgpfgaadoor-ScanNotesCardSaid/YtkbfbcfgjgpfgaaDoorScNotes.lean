/-
  The law ScanNotes: its walk.
-/
import Derived.Test.YtkbfbcfgjgpfgaaDoorScCuts
import Derived.Test.YtkbfbcfgjgpfgaaDoorScNoP
namespace Go.Proofs.YtkbfbcfgjgpfgaaDoor
open Go.RowKit

/-- A line: the bytes of a note without the bytes 10. -/
def lineOf (l : List UInt8) : List UInt8 := l.filter (fun c => !decide (c = 10))

theorem lineOf_ne (l : List UInt8) : ∀ c ∈ lineOf l, c ≠ 10 := fun c hc => by
  have := (List.mem_filter.1 hc).2
  simpa using this

theorem lineOf_snoc_no (l : List UInt8) {c : UInt8} (h : c = 10) : lineOf (l ++ [c]) = lineOf l := by simp [lineOf, List.filter_append, h]
theorem lineOf_snoc_yes (l : List UInt8) {c : UInt8} (h : c ≠ 10) : lineOf (l ++ [c]) = lineOf l ++ [c] := by simp [lineOf, List.filter_append, h]
theorem lineOf_len (l : List UInt8) : (lineOf l).length ≤ l.length := List.length_filter_le _ _

theorem extract_one (s : ByteArray) (k r : Nat) (hk : k < s.size) (hr : k + 1 = r) : (s.extract k r).data.toList = [s[k]] := by
  rw [extract_text s k 1 r hr, drop_cons s k hk]
  rfl

theorem extract_one_size (s : ByteArray) (k r : Nat) (hk : k < s.size) (hr : k + 1 = r) : (s.extract k r).size = 1 := by
  rw [ByteArray.size_extract]
  omega

set_option maxHeartbeats 3200000 in
set_option maxRecDepth 20000 in
theorem notes_law (s note : ByteArray) (w : World) (_hl : s.size ≤ maxLen) (hs : s.size ≤ 140737488351232) (_hl2 : note.size ≤ maxLen) (hs2 : note.size ≤ 140737488351232) (hK : KwAt w) (hE : ErrAt w) :
    Calls Tryd.prog 6 #[.string s, .string note] w fun e w' => e = .returned (.bool true) ∧ Below w.heap.size w w' := by
  have hV : Vars w := ⟨hK, hE⟩
  have HV := Lib.hid hV
  have H1 := Lib.hid (ssm_any w hK hE)
  clear hK hE hV
  by_cases hl : 16384 < s.size
  · have hl' : (16384 : Int) < s.size := by omega
    go_enter Tryd.func6, Tryd.ntmps6
    go_wp2_with fail
    refine H1.out.mono ?_
    rintro e w1 ⟨rfl, hb⟩
    have HB1 := Lib.hid hb
    clear hb
    go_wp2_with fail
    go_ret
    exact ⟨rfl, HB1.out⟩
  have hl' : decide ((16384 : Int) < s.size) = false := decide_eq_false (by omega)
  by_cases hn : 200 < note.size
  · have hn' : (200 : Int) < note.size := by omega
    go_enter Tryd.func6, Tryd.ntmps6
    go_wp2_with fail
    refine H1.out.mono ?_
    rintro e w1 ⟨rfl, hb⟩
    have HB1 := Lib.hid hb
    clear hb
    go_wp2_with fail
    go_ret
    exact ⟨rfl, HB1.out⟩
  have hn' : ¬ (200 : Int) < note.size := by omega
  have HT := Lib.hid (fun (t : ByteArray) W hV R hR => tokens_vars W t hV R hR)
  go_enter Tryd.func6, Tryd.ntmps6
  go_wp2_with fail
  refine H1.out.mono ?_
  rintro e w1 ⟨rfl, hb⟩
  have HB1 := Lib.hid hb
  have HV1 := Lib.hid (HV.out.below hb)
  clear hb
  go_wp2_with fail
  go_loop [6, 7] (fun lv iv => ∃ (k : Nat) (T : ByteArray), k ≤ note.size ∧ iv = .int .i64 k ∧ lv = .string T ∧ T.size ≤ k ∧ Hid (T.data.toList = lineOf (note.data.toList.take k))) (fun _ iv => note.size - (intOf iv).toNat)
  case atStart => exact ⟨0, ⟨#[]⟩, Nat.zero_le _, rfl, rfl, Nat.zero_le _, rfl⟩
  case round =>
    obtain ⟨k, T, hk, rfl, rfl, hTk, HTL⟩ := hrel
    by_cases hkn : k < note.size
    · have hkn' : (k : Int) < note.size := by omega
      obtain ⟨r, hr⟩ : ∃ r, k + 1 = r := ⟨_, rfl⟩
      have hz : (k : Int) + 1 = (r : Int) := by omega
      have hrn : r ≤ note.size := by omega
      have hkr : k ≤ r := by omega
      have HE1 := Lib.hid (extract_one note k r hkn hr)
      have he2 := extract_one_size note k r hkn hr
      have HTM := Lib.hid (take_more note k hkn)
      rw [hr] at HTM
      obtain ⟨b, hb⟩ : ∃ b, ((note[k].toNat : Int) == 10) = b := ⟨_, rfl⟩
      have EB : Hid (note[k] = 10 ↔ b = true) := by rw [← hb]; exact (nat_beq note[k] 10 (by decide)).symm
      have hrk : r = k + 1 := hr.symm
      have HRK := Lib.hid hrk
      have e3 : ¬ 9223372036854775807 < T.size + (note.extract k r).size := by omega
      have hsz : (T ++ note.extract k r).size ≤ r := by rw [ByteArray.size_append]; omega
      have hTr : T.size ≤ r := by omega
      have HL1 : b = false → Hid ((T ++ note.extract k r).data.toList = lineOf (note.data.toList.take r)) := fun hb => by
        show _ = _
        rw [HTM.out, lineOf_snoc_yes _ (fun e => by have := EB.out.1 e; rw [hb] at this; cases this), ← HTL.out, ← HE1.out]
        simp
      have HL2 : b = true → Hid (T.data.toList = lineOf (note.data.toList.take r)) := fun hb => by
        show _ = _
        rw [HTM.out, lineOf_snoc_no _ (EB.out.2 hb)]
        exact HTL.out
      have HSZ := Lib.hid hsz
      clear hr hrk he2 hsz
      cases b
      · have HL := HL1 rfl
        clear HL1 HL2
        go_wp2_with fail
        go_round
        case rel => exact ⟨r, _, hrn, rfl, rfl, HSZ.out, HL⟩
        case measure => have := HRK.out; simp [intOf]; omega
      · have HL := HL2 rfl
        clear HL1 HL2
        go_wp2_with fail
        go_round
        case rel => exact ⟨r, T, hrn, rfl, rfl, hTr, HL⟩
        case measure => have := HRK.out; simp [intOf]; omega
    · have hkn' : ¬ (k : Int) < note.size := by omega
      have hT200 : T.size ≤ 200 := by omega
      obtain ⟨line, hline⟩ : ∃ line, T.data.toList = line := ⟨_, rfl⟩
      have HNL : Hid (∀ c ∈ line, c ≠ 10) := by
        show ∀ c ∈ line, c ≠ 10
        rw [← hline, HTL.out]
        exact lineOf_ne _
      have hlt : line.length = T.size := by rw [← hline]; rfl
      have hlen : s.data.toList.length = s.size := rfl
      obtain ⟨R, hR⟩ : ∃ R, scF s.data.toList = R := ⟨_, rfl⟩
      obtain ⟨N, hN⟩ : ∃ N : ByteArray, N = s ++ ⟨#[10, 47, 47]⟩ ++ T := ⟨_, rfl⟩
      have hNl : N.data.toList = s.data.toList ++ 10 :: 47 :: 47 :: line := by rw [hN, ← hline]; simp
      obtain ⟨R', hR'⟩ : ∃ R', scF N.data.toList = R' := ⟨_, rfl⟩
      have HT1 := Lib.hid (fun W hV => HT.out s W hV R hR)
      have HT2 := Lib.hid (fun W hV => HT.out N W hV R' hR')
      have HNO := Lib.hid (fun h => scF_note s.data.toList line HNL.out h)
      rw [← hNl, hR, hR', hlen, hlt] at HNO
      have e4 : ¬ 9223372036854775807 < s.size + 3 := by omega
      have e5 : ¬ 9223372036854775807 < s.size + 3 + T.size := by omega
      have HNN := Lib.hid hN.symm
      have hnb : R.1.length ≤ 16385 := by rw [← hR]; exact scF_len _
      clear hline hlt hlen hR hR' hNl hN HTL
      obtain ⟨X, x, a⟩ := R
      obtain ⟨X', x', a'⟩ := R'
      obtain ⟨n, hn⟩ : ∃ n, X.length = n := ⟨_, rfl⟩
      obtain ⟨n', hn2⟩ : ∃ n', X'.length = n' := ⟨_, rfl⟩
      simp only at HT1 HT2 hnb
      rw [hn] at HT1 hnb
      rw [hn2] at HT2
      have HLN := Lib.hid (And.intro hn hn2)
      clear hn hn2 HT
      go_wp2_with fail
      refine (HT1.out w1 HV1.out).mono ?_
      rintro e w2 ⟨A, c, rfl, hA, hnc, hcm, hr, hb⟩
      have HRA := Lib.hid hr
      have HB2 : Hid (Below w.heap.size w w2) := HB1.out.trans (hb.mono HB1.out.size)
      have HV2 := Lib.hid (HV1.out.below hb)
      clear hr hb
      obtain ⟨g9, hg9⟩ : ∃ g, g = w2.heap.size := ⟨_, rfl⟩
      obtain ⟨W2, hW2⟩ : ∃ W, W = w2.alloc (.cells #[.int .i64 x, .int .i64 a] 26) := ⟨_, rfl⟩
      have HRA' : Hid (TkRow W2 w1.heap.size (.slice A n c) X) := by rw [hW2]; exact HRA.out.alloc _
      have HF9 : Hid (FtB W2 g9 (.int .i64 x) (.int .i64 a)) := by rw [hW2, hg9]; exact FtB.new _ _ _
      have HB3 : Hid (Below w.heap.size w W2) := by rw [hW2]; exact HB2.out.alloc HB2.out.size _
      have HV3 : Hid (Vars W2) := HV2.out.below (by rw [hW2]; exact (Below.refl _ w2).alloc (Nat.le_refl _) _)
      go_upto_region 11 with fail
      rw [← hW2, ← hg9]
      clear hW2 hg9 HRA HB1 HB2 HV1 HV2
      go_wp2_with fail
      rw [show s ++ { data := #[10, 47, 47] } ++ T = N from HNN.out]
      refine (HT2.out W2 HV3.out).mono ?_
      rintro e w3 ⟨A', c', rfl, hA', hnc', hcm', hr, hb⟩
      have HRB := Lib.hid hr
      have HRA := Lib.hid (HRA'.out.below hb)
      have HF9' := Lib.hid (HF9.out.below hb)
      have HB4 : Hid (Below w.heap.size w w3) := HB3.out.trans (hb.mono HB3.out.size)
      clear hr hb HRA' HF9
      obtain ⟨g11, hg11⟩ : ∃ g, g = w3.heap.size := ⟨_, rfl⟩
      obtain ⟨W3, hW3⟩ : ∃ W, W = w3.alloc (.cells #[.int .i64 x', .int .i64 a'] 26) := ⟨_, rfl⟩
      have HRA' : Hid (TkRow W3 w1.heap.size (.slice A n c) X) := by rw [hW3]; exact HRA.out.alloc _
      have HRB' : Hid (TkRow W3 W2.heap.size (.slice A' n' c') X') := by rw [hW3]; exact HRB.out.alloc _
      have HF9 : Hid (FtB W3 g9 (.int .i64 x) (.int .i64 a)) := by rw [hW3]; exact HF9'.out.alloc _
      have HF11 : Hid (FtB W3 g11 (.int .i64 x') (.int .i64 a')) := by rw [hW3, hg11]; exact FtB.new _ _ _
      have HB5 : Hid (Below w.heap.size w W3) := by rw [hW3]; exact HB4.out.alloc HB4.out.size _
      go_upto_region 12 with fail
      rw [← hW3, ← hg11]
      clear hW3 hg11 HRA HRB HB3 HB4 HF9'
      by_cases hlong : 16384 < s.size + T.size + 3
      · have hlong' : (16384 : Int) < (s.size : Int) + T.size + 3 := by omega
        go_wp2_with fail
        go_ret
        exact ⟨rfl, HB5.out⟩
      · have hlong' : ¬ (16384 : Int) < (s.size : Int) + T.size + 3 := by omega
        have hno := HNO.out (by omega)
        have s0 := HF9.out.c0
        have s1 := HF9.out.c1
        have s2 := HF11.out.c0
        have s3 := HF11.out.c1
        have z1 := heldF
        have z2 := guardF
        rcases hno with ⟨h0, h1⟩ | ⟨Y, h1, h2⟩
        · simp only [Prod.mk.injEq] at h1
          obtain ⟨_, rfl, rfl⟩ := h1
          have hx1 : (x' == 0) = false := by simpa using h0
          have b0 : (x' == x') = true := beq_self_eq_true _
          have b1 : (a' == a') = true := beq_self_eq_true _
          clear h0
          go_wp2_with fail
          go_ret
          exact ⟨rfl, HB5.out⟩
        · simp only [Prod.mk.injEq] at h1 h2
          obtain ⟨hX, rfl, rfl⟩ := h1
          obtain ⟨hX', rfl, rfl⟩ := h2
          obtain ⟨y, hy⟩ : ∃ y, Y.length = y := ⟨_, rfl⟩
          have hny : n = y + 1 := by rw [← HLN.out.1, hX, List.length_append, hy]; rfl
          have hny' : n' = y + 1 := by rw [← HLN.out.2, hX', List.length_append, hy]; rfl
          obtain rfl : n' = n := by omega
          have HYA : Hid (TkSrc W3 A y Y) := by
            have := HRA'.out.reads.take (k := y) (by omega)
            rw [hX, List.take_left' hy] at this
            exact this
          have HYB : Hid (TkSrc W3 A' y Y) := by
            have := HRB'.out.reads.take (k := y) (by omega)
            rw [hX', List.take_left' hy] at this
            exact this
          obtain ⟨gA, rfl, _⟩ := HRA'.out.reads.2 y _ (by rw [hX, ← hy]; exact List.getElem?_concat_length)
          obtain ⟨g, rfl, y0, _, _, y3⟩ := HRB'.out.reads.2 y _ (by rw [hX', ← hy]; exact List.getElem?_concat_length)
          have HSM := Lib.hid (fun m => same_any (W3.drewN m) (some ⟨gA, 0, none⟩) (some ⟨g, 0, none⟩) y y c c' Y Y HYA.out HYB.out (by omega))
          rw [decide_eq_true (rfl : Y = Y)] at HSM
          have hyb : y ≤ 16385 := by omega
          have hyc : (y : Int) ≤ c := by omega
          have hyc' : (y : Int) ≤ c' := by omega
          have q1 : ((n' : Int) == 0) = false := by rw [beq_eq_false_iff_ne]; omega
          have q2 : ((n' : Int) == n') = true := beq_self_eq_true _
          have q3 : (n' : Int) - 1 = (y : Int) := by omega
          have q4 : (y : Int) < n' := by omega
          have q5 : ((s.size + (T.size + 3) : Nat) : Int) = (s.size : Int) + T.size + 3 := by omega
          rw [q5] at y3
          have q6 : (((s.size : Int) + T.size + 3) == ((s.size : Int) + T.size + 3)) = true := beq_self_eq_true _
          clear hX hX' hy hny hny' q5
          go_wp2_with fail
          go_quiet ((go_at_call 10; exact Calls.quiet_of (HSM.out _)))
          go_wp2_with fail
          go_ret
          exact ⟨rfl, HB5.out.trans ((drewN_below W3 _).mono HB5.out.size)⟩

end Go.Proofs.YtkbfbcfgjgpfgaaDoor
