/-
  The law OctetBack: its walk.
-/
import Derived.Test.YtkjcdndlhjacfaaSame
import Derived.Deep.DeepCutAuto
namespace Go.Proofs.Ytkjcdndlhjacfaa
open Go.RowKit

theorem ownsRow_empty (w : World) : (w.alloc (.cells #[] 5)).ownsRow w.heap.size 5 1 (.slice (some ⟨w.heap.size, 0, none⟩) 0 0) 0 (([] : List Int).map (Value.int .u8)) :=
  World.ownsRow_made w #[] 0 (Nat.le_refl _) (by unfold maxLen; omega) (by simp)

theorem encs_range (ns : List Int) : ∀ x ∈ encs ns, 0 ≤ x ∧ x < 256 := by
  intro x hx
  simp only [encs, List.mem_flatMap] at hx
  obtain ⟨n, _, hx⟩ := hx
  exact enc_range _ x hx

theorem liF_len (bs : List Int) : (liF 0 bs).1.length ≤ 4096 := by
  unfold liF
  have ht := szF_told 4096 0 (bs.drop 0)
  generalize szF 4096 0 (bs.drop 0) = r at *
  split
  · simp
  · rename_i h
    rcases ht with ⟨h1, h2, h3, h4⟩ | ⟨h1, _⟩
    · rcases lsF_told bs r.1 r.2.1 (by simp at h3; omega) with h5 | h5
      · omega
      · rw [h5.2.2]; simp
    · omega

/-- What TakeInts tells, as a source of numbers. -/
theorem ListIs.reads {w : World} {G : Nat} {v : Value} {T : List Int × Nat × Int} (h : ListIs w G v T) (he : T.2.2 ≠ 0 → T.1 = []) :
    ∃ ao l c, v = .slice ao l c ∧ ReadsI w ao T.1 ∧ T.1.length = l := by
  rcases h with ⟨h1, rfl⟩ | ⟨h1, g, rfl, ho⟩
  · exact ⟨none, 0, 0, rfl, .inl (he h1), by rw [he h1]; rfl⟩
  · refine ⟨some ⟨g, 0, none⟩, _, _, rfl, .inr ⟨g, 0, rfl, fun i hi => ?_⟩, rfl⟩
    have := ho.cellAt i (by omega)
    rw [Nat.zero_add, this, List.getElem?_map, List.getElem?_eq_getElem hi]
    simp [List.getD, List.getElem?_eq_getElem hi]

theorem liF_bad (bs : List Int) : (liF 0 bs).2.2 ≠ 0 → (liF 0 bs).1 = [] := by
  unfold liF
  have ht := szF_told 4096 0 (bs.drop 0)
  generalize szF 4096 0 (bs.drop 0) = r at *
  split
  · intro _; rfl
  · rename_i h
    rcases ht with ⟨h1, h2, h3, h4⟩ | ⟨h1, _⟩
    · rcases lsF_told bs r.1 r.2.1 (by simp at h3; omega) with h5 | h5
      · intro h6; omega
      · intro _; exact h5.2.2
    · omega

set_option maxHeartbeats 4000000 in
set_option maxRecDepth 20000 in
theorem back_any (n : Int) (s : ByteArray) (la : Option Addr) (ll lc : Nat) (ns : List Int) (a : Option Addr) (len cap : Nat) (bs : List Int) (w : World)
    (hn : -9223372036854775808 ≤ n ∧ n ≤ 9223372036854775807) (hl : ReadsI w la ns) (hll : ns.length = ll) (hls : ll ≤ 1000000000000000) (hns : ∀ x ∈ ns, -9223372036854775808 ≤ x ∧ x ≤ 9223372036854775807)
    (h : Src w a len cap bs) (hnil : a = none → cap = 0) :
    Calls Try.prog 7 #[.int .i64 n, .string s, .slice la ll lc, .slice a len cap] w fun e w' => e = .returned (.bool true) ∧ Below w.heap.size w w' := by
  have H := Lib.hid h
  have HL := Lib.hid hl
  have HLL := Lib.hid hll
  have HNS := Lib.hid hns
  have HN := Lib.hid hn
  have HNil := Lib.hid hnil
  clear h hl hll hns hn hnil
  by_cases hbig : 1048576 < len ∨ 1048576 < s.size ∨ 65536 < ll
  · by_cases hb1 : (1048576 : Int) < len
    · go_enter Try.func7, Try.ntmps7
      go_wp2_with fail
      go_ret
      exact ⟨rfl, Below.refl _ _⟩
    · by_cases hb2 : (1048576 : Int) < s.size
      · go_enter Try.func7, Try.ntmps7
        go_wp2_with fail
        go_ret
        exact ⟨rfl, Below.refl _ _⟩
      · have hb3 : (65536 : Int) < ll := by omega
        go_enter Try.func7, Try.ntmps7
        go_wp2_with fail
        go_ret
        exact ⟨rfl, Below.refl _ _⟩
  · have hb1 : ¬ (1048576 : Int) < len := by omega
    have hb2 : ¬ (1048576 : Int) < s.size := by omega
    have hb3 : ¬ (65536 : Int) < ll := by omega
    clear hbig
    go_enter Try.func7, Try.ntmps7
    go_upto_region 3 with fail
    go_cut [9, 10] (fun s9 s10 wx => ∃ ao ln cp xs c, s9 = .slice ao ln cp ∧ s10 = .int .i64 c ∧ Hid (c = if n < 0 then 1 else 0) ∧ Hid (Src wx ao ln cp xs ∧ (ao = none → cp = 0) ∧ ln ≤ 10 ∧ (0 ≤ n → xs = enc n.toNat)) ∧ Hid (Below w.heap.size w wx))
    case first =>
      by_cases hneg : n < 0
      · go_wp2_with fail
        refine (uint_neg n w hneg).mono ?_
        rintro e w1 ⟨rfl, rfl⟩
        go_wp2_with fail
        go_meet
        exact ⟨none, 0, 0, [], 1, rfl, rfl, (if_pos hneg).symm, ⟨src_nil w, fun _ => rfl, by omega, by omega⟩, Below.refl _ _⟩
      · obtain ⟨m, rfl⟩ := Int.eq_ofNat_of_zero_le (by omega : 0 ≤ n)
        have hm := HN.out.2
        have HM : Hid (m < 2 ^ 63) := by unfold Hid; omega
        clear hm
        go_wp2_with fail
        refine (uint_pos m w HM.out).mono ?_
        rintro e w1 ⟨g, c, rfl, own, b1⟩
        obtain ⟨ao, cp, hv, hsrc, hnl⟩ := row_src own (enc_range m) (by have := enc_length m (by have := HM.out; omega); omega)
        have HS := Lib.hid hsrc
        have HV := Lib.hid hv
        clear own hsrc hv
        go_wp2_with fail
        go_meet
        exact ⟨ao, _, cp, enc m, 0, HV.out, rfl, (if_neg (by omega)).symm, ⟨HS.out, hnl, enc_length m (by have := HM.out; omega), fun _ => by simp⟩, b1⟩
    case rest =>
      obtain ⟨ao, ln, cp, xs, c10, rfl, rfl, HC, HX, HB1⟩ := hcut
      go_wp2_with (at_builtin; refine wpl_append_src rfl (.tmp 48) (.tmp 49) rfl wc.heap.size _ 0 [] rfl (ownsRow_empty wc) ao ln cp xs (HX.out.1.below ((Below.refl _ wc).alloc (Nat.le_refl _) _)) HX.out.2.1 rfl (by have := HX.out.2.2.1; omega) (by simp) ?_)
      intro v1 w1 own1 gr1
      have HO1 := Lib.hid own1
      have HG1 := Lib.hid ((((Below.refl wc.heap.size wc).alloc (Nat.le_refl _) _).grown gr1 (by simp) (fun k h => ((ownsRow_empty wc).lt k h).1)))
      clear own1 gr1
      go_wp2_with (at_builtin; refine wpl_append_src rfl (.tmp 50) (.tmp 51) rfl wc.heap.size _ ln _ rfl HO1.out a len cap bs (H.out.below (HB1.out.trans (HG1.out.mono HB1.out.size))) HNil.out rfl (by have := HX.out.2.2.1; omega) HG1.out.size ?_)
      intro v2 w2 own2 gr2
      have HO2 := Lib.hid own2
      have HG2 := Lib.hid (HG1.out.grown gr2 HG1.out.size (fun k h => (HO1.out.lt k h).1))
      clear own2 gr2
      have hxr : ∀ x ∈ xs ++ bs, 0 ≤ x ∧ x < 256 := by
        intro x hx
        rcases List.mem_append.1 hx with hx | hx
        · exact HX.out.1.bytes x hx
        · exact H.out.bytes x hx
      obtain ⟨ao2, cp2, hv2, hsrc2, _⟩ := row_src (n := ln + len) (xs := xs ++ bs) (by rw [List.map_append]; exact HO2.out) hxr (by have := HX.out.2.2.1; omega)
      have HS2 := Lib.hid hsrc2
      clear hsrc2 hxr
      subst hv2
      go_wp2_with fail
      refine (takeUint_any w2 ao2 _ cp2 _ HS2.out).mono ?_
      rintro e w3 ⟨rfl, b3⟩
      have HB3 := Lib.hid (HB1.out.trans ((HG2.out.trans (b3.mono HG2.out.size)).mono HB1.out.size))
      have HT : Hid (0 ≤ n → tkF M63 true 0 0 (xs ++ bs) = (n.toNat, ln, 0)) := by
        intro h0
        have hx := HX.out.2.2.2 h0
        have hl := HX.out.1.size
        rw [hx] at hl ⊢
        rw [take_back bs (by have := HN.out.2; unfold M63; omega), hl]; simp
      clear b3 HO2 HS2
      generalize tkF M63 true 0 0 (xs ++ bs) = r at *
      go_upto_region 5 with fail
      go_cut [80] (fun s wx => s = .bool false ∧ wx = w3)
      case first =>
        by_cases hneg : n < 0
        · have hc : c10 = 1 := by rw [HC.out, if_pos hneg]
          subst hc
          have hz : decide (0 ≤ n) = false := decide_eq_false (by omega)
          go_wp2_with fail
          go_meet
          exact ⟨rfl, rfl⟩
        · have hc : c10 = 0 := by rw [HC.out, if_neg hneg]
          subst hc
          obtain ⟨m, rfl⟩ := Int.eq_ofNat_of_zero_le (by omega : 0 ≤ n)
          have e := HT.out (by omega)
          subst e
          go_wp2_with fail
          go_meet
          exact ⟨rfl, rfl⟩
      case rest =>
        obtain ⟨rfl, rfl⟩ := hcut
        clear HT HC HG1 HG2 HO1 HX HB1
        go_wp2_with fail
        refine (int_any n _ HN.out.1 HN.out.2).mono ?_
        rintro e w4 ⟨v4, rfl, hm4, b4⟩
        obtain ⟨g4, cp4, hv4, hsrc4⟩ := hm4.src (enc_range _) (by have := enc_length (fo n) (by have := fo_lt n HN.out.1 HN.out.2; omega); omega)
        have HS4 := Lib.hid hsrc4
        have HB4 := Lib.hid (HB3.out.trans (b4.mono HB3.out.size))
        have hl4 := enc_length (fo n) (by have := fo_lt n HN.out.1 HN.out.2; omega)
        have hp4 := enc_length_pos (fo n)
        clear hm4 hsrc4 b4 HB3
        subst hv4
        go_wp2_with (at_builtin; refine wpl_append_src rfl (.tmp 84) (.tmp 85) rfl w4.heap.size _ 0 [] rfl (ownsRow_empty w4) _ _ cp4 _ (HS4.out.below ((Below.refl _ w4).alloc (Nat.le_refl _) _)) (fun h => by cases h) rfl (by omega) (by simp) ?_)
        intro v5 w5 own5 gr5
        have HO5 := Lib.hid own5
        have HG5 := Lib.hid ((((Below.refl w4.heap.size w4).alloc (Nat.le_refl _) _).grown gr5 (by simp) (fun k h => ((ownsRow_empty w4).lt k h).1)))
        clear own5 gr5
        go_wp2_with (at_builtin; refine wpl_append_src rfl (.tmp 86) (.tmp 87) rfl w4.heap.size _ _ _ rfl HO5.out a len cap bs (H.out.below (HB4.out.trans (HG5.out.mono HB4.out.size))) HNil.out rfl (by omega) HG5.out.size ?_)
        intro v6 w6 own6 gr6
        have HO6 := Lib.hid own6
        have HG6 := Lib.hid (HG5.out.grown gr6 HG5.out.size (fun k h => (HO5.out.lt k h).1))
        clear own6 gr6
        obtain ⟨ao6, cp6, hv6, hsrc6, _⟩ := row_src (n := (enc (fo n)).length + len) (xs := enc (fo n) ++ bs) (by rw [List.map_append]; exact HO6.out) (fun x hx => by
          rcases List.mem_append.1 hx with hx | hx
          · exact enc_range _ x hx
          · exact H.out.bytes x hx) (by omega)
        have HS6 := Lib.hid hsrc6
        have HB6 := Lib.hid (HB4.out.trans (HG6.out.mono HB4.out.size))
        clear hsrc6 HO5 HO6 HG5 HG6 HS4 HB4
        subst hv6
        go_wp2_with fail
        refine (takeInt_any w6 ao6 _ cp6 _ HS6.out).mono ?_
        rintro e w7 ⟨rfl, b7⟩
        have HB7 := Lib.hid (HB6.out.trans (b7.mono HB6.out.size))
        have ht7 : tkF M64 true 0 0 (enc (fo n) ++ bs) = (fo n, (enc (fo n)).length, 0) := by
          rw [take_back bs (by have := fo_lt n HN.out.1 HN.out.2; unfold M64; omega)]; simp
        rw [ht7]
        simp only [unf_fo]
        clear ht7 b7 HB6 HS6
        have hnn : (n == n) = true := by simp
        have hz7 : ((enc (fo n)).length == 0) = false := by rw [beq_eq_false_iff_ne]; omega
        go_upto_region 11 with fail
        clear hnn hz7 hl4 hp4
        go_cut [18, 19] (fun s9 s10 wx => ∃ ao ln cp xs c, s9 = .slice ao ln cp ∧ s10 = .int .i64 c ∧ Hid (c = if s.size ≤ 65535 then 0 else 2) ∧ Hid (Src wx ao ln cp xs ∧ (ao = none → cp = 0) ∧ ln ≤ 70000 ∧ (s.size ≤ 65535 → xs = enc s.size ++ sb s)) ∧ Hid (Below w.heap.size w wx))
        case first =>
          by_cases hneg : s.size ≤ 65535
          · go_wp2_with fail
            refine (text_short s w7 hneg).mono ?_
            rintro e w8 ⟨v8, rfl, hm8, b8⟩
            have hll8 : (enc s.size ++ sb s).length ≤ 70000 := by have := enc_length s.size (by omega); have := sb_length s; simp; omega
            obtain ⟨g8, cp8, hv8, hsrc8⟩ := hm8.src (fun x hx => by
              rcases List.mem_append.1 hx with hx | hx
              · exact enc_range _ x hx
              · exact sb_range _ x hx) (by omega)
            have HS := Lib.hid hsrc8
            have HV := Lib.hid hv8
            have HLL8 := Lib.hid hll8
            clear hm8 hsrc8 hv8 hll8
            go_wp2_with fail
            go_meet
            exact ⟨_, _, cp8, _, 0, HV.out, rfl, (if_pos hneg).symm, ⟨HS.out, (fun h => by cases h), HLL8.out, fun _ => rfl⟩, HB7.out.trans (b8.mono HB7.out.size)⟩
          · go_wp2_with fail
            refine (text_long s w7 (by omega)).mono ?_
            rintro e w8 ⟨rfl, rfl⟩
            go_wp2_with fail
            go_meet
            exact ⟨none, 0, 0, [], 2, rfl, rfl, (if_neg hneg).symm, ⟨src_nil _, fun _ => rfl, by omega, by omega⟩, HB7.out⟩
        case rest =>
          obtain ⟨ao8, ln8, cp8, xs8, c8, rfl, rfl, HC8, HX8, HB8⟩ := hcut
          clear HB7
          go_wp2_with (at_builtin; refine wpl_append_src rfl (.tmp 116) (.tmp 117) rfl wc.heap.size _ 0 [] rfl (ownsRow_empty wc) _ _ cp8 _ (HX8.out.1.below ((Below.refl _ wc).alloc (Nat.le_refl _) _)) HX8.out.2.1 rfl (by have := HX8.out.2.2.1; omega) (by simp) ?_)
          intro v5 w5 own5 gr5
          have HO5 := Lib.hid own5
          have HG5 := Lib.hid ((((Below.refl wc.heap.size wc).alloc (Nat.le_refl _) _).grown gr5 (by simp) (fun k h => ((ownsRow_empty wc).lt k h).1)))
          clear own5 gr5
          go_wp2_with (at_builtin; refine wpl_append_src rfl (.tmp 118) (.tmp 119) rfl wc.heap.size _ ln8 _ rfl HO5.out a len cap bs (H.out.below (HB8.out.trans (HG5.out.mono HB8.out.size))) HNil.out rfl (by have := HX8.out.2.2.1; omega) HG5.out.size ?_)
          intro v6 w6 own6 gr6
          have HO6 := Lib.hid own6
          have HG6 := Lib.hid (HG5.out.grown gr6 HG5.out.size (fun k h => (HO5.out.lt k h).1))
          clear own6 gr6
          obtain ⟨ao6, cp6, hv6, hsrc6, _⟩ := row_src (n := ln8 + len) (xs := xs8 ++ bs) (by rw [List.map_append]; exact HO6.out) (fun x hx => by
            rcases List.mem_append.1 hx with hx | hx
            · exact HX8.out.1.bytes x hx
            · exact H.out.bytes x hx) (by have := HX8.out.2.2.1; omega)
          have HS6 := Lib.hid hsrc6
          have HB6 := Lib.hid (HB8.out.trans (HG6.out.mono HB8.out.size))
          clear hsrc6 HO5 HO6 HG5 HG6 HB8
          subst hv6
          go_wp2_with fail
          refine (takeText_any w6 ao6 _ cp6 _ HS6.out).mono ?_
          rintro e w9 ⟨rfl, b9⟩
          have HB9 := Lib.hid (HB6.out.trans (b9.mono HB6.out.size))
          have HT9 : Hid (s.size ≤ 65535 → txF 0 (xs8 ++ bs) = (sb s, ln8, 0)) := by
            intro h0
            have hx := HX8.out.2.2.2 h0
            have hl := HX8.out.1.size
            have hsl := sb_length s
            rw [hx] at hl ⊢
            rw [← hsl] at hl ⊢
            rw [txF_back (sb s) bs (by omega), hl]
          clear b9 HB6 HS6
          generalize txF 0 (xs8 ++ bs) = r9 at *
          go_upto_region 13 with fail
          go_cut [149] (fun s wx => s = .bool false ∧ wx = w9)
          case first =>
            by_cases hneg : s.size ≤ 65535
            · have hc : c8 = 0 := by rw [HC8.out, if_pos hneg]
              subst hc
              have e := HT9.out hneg
              subst e
              have hs2 : ((strOfNums (sb s)).toList == s.toList) = true := by rw [sb_str s]; simp
              have hz : decide ((s.size : Int) ≤ 65535) = true := decide_eq_true (by omega)
              go_wp2_with fail
              go_meet
              exact ⟨rfl, rfl⟩
            · have hc : c8 = 2 := by rw [HC8.out, if_neg hneg]
              subst hc
              have hz : decide ((s.size : Int) ≤ 65535) = false := decide_eq_false (by omega)
              go_wp2_with fail
              go_meet
              exact ⟨rfl, rfl⟩
          case rest =>
            obtain ⟨rfl, rfl⟩ := hcut
            clear HT9 HC8 HX8
            go_upto_region 15 with fail
            go_cut [23, 24] (fun s9 s10 wx => ∃ ao ln cp xs c, s9 = .slice ao ln cp ∧ s10 = .int .i64 c ∧ Hid (c = if ll ≤ 4096 then 0 else 2) ∧ Hid (Src wx ao ln cp xs ∧ (ao = none → cp = 0) ∧ ln ≤ 70000 ∧ (ll ≤ 4096 → xs = enc ll ++ encs ns)) ∧ Hid (Below w.heap.size w wx))
            case first =>
              by_cases hneg : ll ≤ 4096
              · go_wp2_with fail
                refine (ints_short la ll lc ns _ hneg HLL.out (HL.out.below HB9.out) HNS.out).mono ?_
                rintro e w8 ⟨v8, rfl, hm8, b8⟩
                have hll8 : (enc ll ++ encs ns).length ≤ 70000 := by have := enc_length ll (by omega); have := encs_length ns HNS.out; have := HLL.out; simp; omega
                obtain ⟨g8, cp8, hv8, hsrc8⟩ := hm8.src (fun x hx => by
                  rcases List.mem_append.1 hx with hx | hx
                  · exact enc_range _ x hx
                  · exact encs_range _ x hx) (by omega)
                have HS := Lib.hid hsrc8
                have HV := Lib.hid hv8
                have HLL8 := Lib.hid hll8
                clear hm8 hsrc8 hv8 hll8
                go_wp2_with fail
                go_meet
                exact ⟨_, _, cp8, _, 0, HV.out, rfl, (if_pos hneg).symm, ⟨HS.out, (fun h => by cases h), HLL8.out, fun _ => rfl⟩, HB9.out.trans (b8.mono HB9.out.size)⟩
              · go_wp2_with fail
                refine (ints_long la ll lc _ (by omega)).mono ?_
                rintro e w8 ⟨rfl, rfl⟩
                go_wp2_with fail
                go_meet
                exact ⟨none, 0, 0, [], 2, rfl, rfl, (if_neg hneg).symm, ⟨src_nil _, fun _ => rfl, by omega, by omega⟩, HB9.out⟩
            case rest =>
              obtain ⟨aoA, lnA, cpA, xsA, cA, rfl, rfl, HCA, HXA, HBA⟩ := hcut
              clear HB9
              go_wp2_with (at_builtin; refine wpl_append_src rfl (.tmp 156) (.tmp 157) rfl wc.heap.size _ 0 [] rfl (ownsRow_empty wc) _ _ cpA _ (HXA.out.1.below ((Below.refl _ wc).alloc (Nat.le_refl _) _)) HXA.out.2.1 rfl (by have := HXA.out.2.2.1; omega) (by simp) ?_)
              intro v5 w5 own5 gr5
              have HO5 := Lib.hid own5
              have HG5 := Lib.hid ((((Below.refl wc.heap.size wc).alloc (Nat.le_refl _) _).grown gr5 (by simp) (fun k h => ((ownsRow_empty wc).lt k h).1)))
              clear own5 gr5
              go_wp2_with (at_builtin; refine wpl_append_src rfl (.tmp 158) (.tmp 159) rfl wc.heap.size _ lnA _ rfl HO5.out a len cap bs (H.out.below (HBA.out.trans (HG5.out.mono HBA.out.size))) HNil.out rfl (by have := HXA.out.2.2.1; omega) HG5.out.size ?_)
              intro v6 w6 own6 gr6
              have HO6 := Lib.hid own6
              have HG6 := Lib.hid (HG5.out.grown gr6 HG5.out.size (fun k h => (HO5.out.lt k h).1))
              clear own6 gr6
              obtain ⟨ao6, cp6, hv6, hsrc6, _⟩ := row_src (n := lnA + len) (xs := xsA ++ bs) (by rw [List.map_append]; exact HO6.out) (fun x hx => by
                rcases List.mem_append.1 hx with hx | hx
                · exact HXA.out.1.bytes x hx
                · exact H.out.bytes x hx) (by have := HXA.out.2.2.1; omega)
              have HS6 := Lib.hid hsrc6
              have HB6 := Lib.hid (HBA.out.trans (HG6.out.mono HBA.out.size))
              clear hsrc6 HO5 HO6 HG5 HG6 HBA
              subst hv6
              go_wp2_with fail
              refine (takeInts_any w6 ao6 _ cp6 _ HS6.out).mono ?_
              rintro e wB ⟨vB, rfl, hlB, bB⟩
              have HBB := Lib.hid (HB6.out.trans (bB.mono HB6.out.size))
              have HTB : Hid (ll ≤ 4096 → liF 0 (xsA ++ bs) = (ns, lnA, 0)) := by
                intro h0
                have hx := HXA.out.2.2.2 h0
                have hl := HXA.out.1.size
                rw [hx] at hl ⊢
                rw [← HLL.out] at hl h0 ⊢
                rw [liF_back ns bs h0 HNS.out, hl]
              have htold := liF_len (xsA ++ bs)
              obtain ⟨aoB, lB, cB, hvB, hrB, hlenB⟩ := hlB.reads (liF_bad _)
              have HRB := Lib.hid hrB
              have HLB := Lib.hid (And.intro hlenB htold)
              subst hvB
              clear bB HB6 HS6 hlB hrB hlenB htold
              generalize liF 0 (xsA ++ bs) = rB at *
              go_wp2_with fail
              refine (same_any _ aoB la lB cB ll lc rB.1 ns HRB.out (HL.out.below HBB.out) HLB.out.1 HLL.out (by have := HLB.out; omega)).mono ?_
              rintro e wD ⟨rfl, nD, rfl⟩
              have HBD := Lib.hid (below_drawn HBB.out nD)
              clear HBB HRB
              by_cases hneg : ll ≤ 4096
              · have hc : cA = 0 := by rw [HCA.out, if_pos hneg]
                subst hc
                have e := HTB.out hneg
                subst e
                have hz : decide ((ll : Int) ≤ 4096) = true := decide_eq_true (by omega)
                have hd : decide (ns = ns) = true := decide_eq_true rfl
                go_wp2_with fail
                go_ret
                exact ⟨rfl, HBD.out⟩
              · have hc : cA = 2 := by rw [HCA.out, if_neg hneg]
                subst hc
                have hz : decide ((ll : Int) ≤ 4096) = false := decide_eq_false (by omega)
                go_wp2_with fail
                go_ret
                exact ⟨rfl, HBD.out⟩

end Go.Proofs.Ytkjcdndlhjacfaa
