/-
  The law SealRows: its walk.
-/
import Derived.Test.YtgiepkiogjkjjaaSRows
namespace Go.Proofs.Ytgiepkiogjkjjaa
open Go.RowKit

theorem xor_in (x b : Int) (hx : 0 ≤ x ∧ x < 256) (hb : 0 ≤ b ∧ b < 256) : ∃ y, bits .xor .u8 x b = y ∧ 0 ≤ y ∧ y < 256 := by
  obtain ⟨m, rfl⟩ := Int.eq_ofNat_of_zero_le hx.1
  obtain ⟨n, rfl⟩ := Int.eq_ofNat_of_zero_le hb.1
  have : m ^^^ n < 2 ^ 8 := Nat.xor_lt_two_pow (by omega) (by omega)
  exact ⟨_, u8_xor_nat m n (by omega) (by omega), by omega, by omega⟩

/-- Bytes that the law has gathered. -/
structure Heap (w wr : World) (m : Nat) (zs : List Int) (bv : Value) : Prop where
  bytes : InB zs
  own : wr.ownsRow w.heap.size 5 1 bv m (zs.map (Value.int .u8))
  below : Below w.heap.size w wr

/-- Bytes, as a source, and where they lie. -/
structure Cut (w wr : World) (m : Nat) (zs : List Int) (bv : Value) : Prop where
  src : ∃ a c, bv = .slice a m c ∧ Src wr a m c zs ∧ (a = none → c = 0)
  below : Below w.heap.size w wr

theorem RowsOwn.mono {w : World} {G G' : Nat} {rv : Value} {vals : List Value} {L : List (List Int)} (h : RowsOwn w G rv vals L) (hG : G' ≤ G) : RowsOwn w G' rv vals L :=
  ⟨h.len, ownsRow_mono h.row hG, fun i v xs h1 h2 => ownsRow_mono (h.own i v xs h1 h2) hG, h.apart⟩

set_option maxHeartbeats 6400000 in
set_option maxRecDepth 20000 in
theorem srows_law (w : World) (a : Option Addr) (n cap : Nat) (ps : List Piece) (t b u : Int) (ta : Option Addr) (tl tc : Nat) (ts : List Int) (hP : PartsIn w a ps) (hnil : ∀ p ∈ ps, p.a = none → p.cap = 0) (hn : ps.length = n)
    (ht : t ≤ 9223372036854775807) (hb : 0 ≤ b ∧ b < 256) (hu : u ≤ 9223372036854775807) (hT : Src w ta tl tc ts) (htn : ta = none → tc = 0) :
    Calls Try.prog 5 #[.slice a n cap, .int .i64 t, .int .u8 b, .int .i64 u, .slice ta tl tc] w fun e w' => e = .returned (.bool true) ∧ Below w.heap.size w w' := by
  by_cases h1 : 1048576 < tl
  · have h1' : (1048576 : Int) < tl := by omega
    go_enter Try.func5, Try.ntmps5
    go_wp2_with fail
    go_ret
    exact ⟨rfl, Below.refl _ _⟩
  have h1' : ¬ (1048576 : Int) < tl := by omega
  have HP := Lib.hid hP
  have HNIL := Lib.hid hnil
  have HN := Lib.hid hn
  have HT := Lib.hid hT
  have HTN := Lib.hid htn
  have HBY := Lib.hid hb
  clear hP hnil hn hT htn hb
  go_enter Try.func5, Try.ntmps5
  go_upto_block 0 with fail
  go_cut [11] (fun bv wx => ∃ (m : Nat) (zs : List Int), m ≤ 21000000 ∧ Hid (Heap w wx m zs bv))
  case first =>
    go_wp2_with fail
    go_loopw [11, 12] (fun bv iv wr => ∃ (k m : Nat) (zs : List Int), k ≤ n ∧ k ≤ 20 ∧ iv = .int .i64 (k : Int) ∧ m ≤ 1048600 * k ∧ Hid (Heap w wr m zs bv)) (fun _ iv _ => 20 - (intOf iv).toNat)
    case atStart => exact ⟨0, 0, [], Nat.zero_le _, Nat.zero_le _, rfl, Nat.zero_le _, fun x hx => by simp at hx, World.ownsRow_nil _ _ _ _, Below.refl _ _⟩
    case round =>
      obtain ⟨k, m, zs, hk, hk20, rfl, hm, hH⟩ := hrel
      by_cases hkn : k < n
      · by_cases hkt : k < 20
        · obtain ⟨p, hp⟩ : ∃ p, ps[k]? = some p := ⟨_, List.getElem?_eq_getElem (by rw [HN.out]; exact hkn)⟩
          obtain ⟨pb, po, rfl, hcl0⟩ := HP.out.cells k p hp
          have hcl : wr.cell? ⟨pb, po + k, none⟩ = some p.val := by
            rw [← hcl0]
            exact World.cell?_of_block (w := w) (hH.out.below.block pb (World.block_lt_of_cell? w _ hcl0))
          have HSRC := Lib.hid (HP.out.srcs p (List.mem_of_getElem? hp))
          have HPN := Lib.hid (HNIL.out p (List.mem_of_getElem? hp))
          have hkt' : (k : Int) < 20 := by omega
          clear hcl0 hp
          obtain ⟨pa, len, c, bs⟩ := p
          simp only [Piece.val] at hcl HSRC HPN
          have HCR := Lib.hid (clRow_range HSRC.out.bytes)
          have hclr := clRow_length bs
          go_wp2_with fail
          refine (rclose_all wr pa len c bs (HSRC.out.below hH.out.below) HPN.out).mono ?_
          rintro e w1 ⟨v1, rfl, ho1, hb1⟩
          generalize clRow bs = F at *
          obtain ⟨a1, c1, rfl, hs1, hn1⟩ := row_src ho1 HCR.out (by omega)
          have HS1 := Lib.hid hs1
          have HN1 := Lib.hid hn1
          have HO1 := Lib.hid (ownsRow_below hH.out.own hb1 (fun k h => (hH.out.own.lt k h).2))
          have HB1 := Lib.hid (hH.out.below.trans (hb1.mono hH.out.below.size))
          have HZ := Lib.hid hH.out.bytes
          clear ho1 hs1 hn1 hb1 hcl
          by_cases hl : len ≤ 1048576
          · have hcc : clCode len = 0 := if_pos hl
            go_wp2_with (at_builtin; refine wpl_append_src rfl (.tmp 50) (.tmp 51) rfl w.heap.size _ m _ rfl HO1.out _ _ c1 F HS1.out HN1.out rfl (by omega) HB1.out.size ?_)
            intro v6 w6 own6 gr6
            have HH6 : Hid (Heap w w6 (m + F.length) (zs ++ F) v6) :=
              ⟨fun x hx => by
                rcases List.mem_append.1 hx with hx | hx
                · exact HZ.out x hx
                · exact HCR.out x hx, by rw [List.map_append]; exact own6, HB1.out.grown gr6 HB1.out.size (fun k h => (HO1.out.lt k h).1)⟩
            clear own6 gr6 HO1 HB1 hH
            go_wp2_with fail
            go_roundw
            case rel => exact ⟨k + 1, m + F.length, zs ++ F, by omega, by omega, by go_num, by omega, HH6⟩
            case measure => simp [intOf]; omega
          · have hcc : clCode len = 2 := if_neg hl
            go_wp2_with fail
            go_ret
            exact ⟨rfl, HB1.out⟩
        · have hkt' : ¬ (k : Int) < 20 := by omega
          go_wp2_with fail
          go_meet
          exact ⟨m, zs, by omega, hH⟩
      · go_wp2_with fail
        go_meet
        exact ⟨m, zs, by omega, hH⟩
  case rest =>
    obtain ⟨m, zs, hm, hH⟩ := hcut
    have HTS := Lib.hid (HT.out.below hH.out.below)
    go_wp2_with (at_builtin; refine wpl_append_src rfl (.tmp 53) (.tmp 54) rfl w.heap.size _ m _ rfl hH.out.own ta tl tc ts HTS.out HTN.out rfl (by omega) hH.out.below.size ?_)
    intro v6 w6 own6 gr6
    obtain ⟨M, hM⟩ : ∃ M, M = m + tl := ⟨_, rfl⟩
    have HH6 : Hid (Heap w w6 M (zs ++ ts) v6) :=
      ⟨fun x hx => by
        rcases List.mem_append.1 hx with hx | hx
        · exact hH.out.bytes x hx
        · exact HT.out.bytes x hx, by rw [List.map_append, hM]; exact own6, hH.out.below.grown gr6 hH.out.below.size (fun k h => (hH.out.own.lt k h).1)⟩
    have hMb : M ≤ 22100000 := by omega
    clear own6 gr6 hH HTS hM hm
    generalize zs ++ ts = z2 at *
    obtain ⟨ab, cb, rfl, hcb, hab⟩ := own_form HH6.out.own
    go_upto_region 12 with fail
    go_cut [63] (fun s wx => ∃ d : Bool, s = .bool d ∧ Hid (d = decide (0 ≤ t ∧ t < (M : Int))) ∧ Hid (Heap w wx M z2 (.slice ab M cb)))
    case first =>
      by_cases h0 : 0 ≤ t
      · by_cases h1 : t < (M : Int)
        · go_wp2_with fail
          go_meet
          exact ⟨true, rfl, (decide_eq_true ⟨h0, h1⟩).symm, HH6⟩
        · go_wp2_with fail
          go_meet
          exact ⟨false, rfl, (decide_eq_false (by omega)).symm, HH6⟩
      · go_wp2_with fail
        go_meet
        exact ⟨false, rfl, (decide_eq_false (by omega)).symm, HH6⟩
    case rest =>
      obtain ⟨d, rfl, HD, HH7⟩ := hcut
      clear HH6
      go_upto_if 63 with (fail)
      go_cut [] (fun wx => ∃ z3 : List Int, Hid (Heap w wx M z3 (.slice ab M cb)))
      case first =>
        cases d
        · go_wp2_with fail
          go_meet
          exact ⟨z2, HH7⟩
        · have h1 := HD.out.symm
          rw [decide_eq_true_iff] at h1
          obtain ⟨t2, rfl⟩ := Int.eq_ofNat_of_zero_le h1.1
          have h2 : t2 < M := by omega
          obtain ⟨g, rfl⟩ := hab (by omega)
          have hzl : z2.length = M := by have := HH7.out.own.1; simpa using this
          have hcell : wc.cell? ⟨g, t2, none⟩ = some (.int .u8 (z2.getD t2 0)) := by
            rw [HH7.out.own.cellAt t2 (by omega), List.getElem?_map, List.getElem?_eq_getElem (by omega)]
            simp [List.getD, List.getElem?_eq_getElem (by omega : t2 < z2.length)]
          obtain ⟨y, hy, hy0, hy1⟩ := xor_in (z2.getD t2 0) b (HH7.out.bytes _ (by simp [List.getD, List.getElem?_eq_getElem (by omega : t2 < z2.length)])) HBY.out
          have hfz := HH7.out.own.frozenAt t2
          have HST := Lib.hid (HH7.out.own.stored t2 (.int .u8 y)).1
          have HG := Lib.hid (HH7.out.own.lt g rfl).1
          have HH8 : Hid (Heap w (wc.setCell ⟨g, t2, none⟩ (.int .u8 y)) M (z2.set t2 y) (.slice (some ⟨g, 0, none⟩) M cb)) :=
            ⟨fun x hx => by
              rcases List.mem_or_eq_of_mem_set hx with hx | hx
              · exact HH7.out.bytes x hx
              · rw [hx]; exact ⟨hy0, hy1⟩, by rw [List.map_set]; exact HST.out, HH7.out.below.setCell (p := ⟨g, t2, none⟩) HG.out _⟩
          generalize z2.getD t2 0 = x at *
          clear HH7 HST HG hzl hy0 hy1
          go_wp2_with fail
          go_meet
          exact ⟨_, HH8⟩
      case rest =>
        clear HD HH7
        obtain ⟨z3, HH8⟩ := hcut
        go_upto_region 14 with fail
        go_cut [80] (fun s wx => ∃ d : Bool, s = .bool d ∧ Hid (d = decide (0 ≤ u ∧ u < (M : Int))) ∧ Hid (Heap w wx M z3 (.slice ab M cb)))
        case first =>
          by_cases h0 : 0 ≤ u
          · by_cases h1 : u < (M : Int)
            · go_wp2_with fail
              go_meet
              exact ⟨true, rfl, (decide_eq_true ⟨h0, h1⟩).symm, HH8⟩
            · go_wp2_with fail
              go_meet
              exact ⟨false, rfl, (decide_eq_false (by omega)).symm, HH8⟩
          · go_wp2_with fail
            go_meet
            exact ⟨false, rfl, (decide_eq_false (by omega)).symm, HH8⟩
        case rest =>
          obtain ⟨d, rfl, HD, HH9⟩ := hcut
          clear HH8
          go_upto_if 80 with (fail)
          go_cut [11] (fun s wx => ∃ (ax : Option Addr) (K cx : Nat) (z4 : List Int), s = .slice ax K cx ∧ K ≤ 22100000 ∧ Hid (Src wx ax K cx z4 ∧ (ax = none → cx = 0)) ∧ Hid (Below w.heap.size w wx))
          case first =>
            obtain ⟨a9, c9, hv9, hs9, hn9⟩ := row_src HH9.out.own HH9.out.bytes (by omega)
            simp only [Value.slice.injEq, true_and] at hv9
            obtain ⟨rfl, rfl⟩ := hv9
            have HS9 := Lib.hid (And.intro hs9 hn9)
            have HB9 := Lib.hid HH9.out.below
            clear hs9 hn9 HH9
            cases d
            · go_wp2_with fail
              go_meet
              exact ⟨_, _, _, z3, rfl, hMb, HS9, HB9⟩
            · have h1 := HD.out.symm
              rw [decide_eq_true_iff] at h1
              obtain ⟨u2, rfl⟩ := Int.eq_ofNat_of_zero_le h1.1
              have h2 : u2 ≤ cb := by omega
              have h3 : u2 ≤ M := by omega
              go_wp2_with fail
              go_meet
              exact ⟨_, u2, _, z3.take u2, rfl, by omega, ⟨HS9.out.1.pre u2 h3, HS9.out.2⟩, HB9⟩
          case rest =>
            clear HD HH9 hab hcb
            obtain ⟨ax, K, cx, z4, rfl, hK, HS, HB⟩ := hcut
            have HIN : Hid (InB z4) := HS.out.1.bytes
            have hrl := rw_len HIN.out
            have hzl := HS.out.1.size
            obtain ⟨T, hT⟩ : ∃ T, T = rw' z4 := ⟨_, rfl⟩
            rw [← hT] at hrl
            have HTT := Lib.hid hT
            clear hT
            go_wp2_with fail
            refine (lent_any wc ax K cx z4 HS.out.1 (by omega)).mono ?_
            rintro e w1 ⟨rfl, hbk, hb1⟩
            have HK1 := Lib.hid hbk
            have HB1 := Lib.hid (HB.out.trans (hb1.mono HB.out.size))
            have HS1 := Lib.hid (HS.out.1.below hb1)
            have hLb := HB.out.size
            have hL1 := hbk.lt
            clear hbk hb1 HB
            go_wp2_with fail
            refine (srows_any w1 _ K (K + 1) z4 (HK1.out.lent HS.out.1.size HS.out.1.small HS.out.1.bytes) (by omega)).mono ?_
            rintro e w2 ⟨rv, vals, rfl, hro, hb2⟩
            rw [← HTT.out] at hro ⊢
            have HRO := Lib.hid (hro.mono (Nat.le_add_right w1.heap.size 1))
            have hz2 := hb2.size
            have HB2 := Lib.hid (HB1.out.trans (hb2.mono HB1.out.size))
            have HK2 := Lib.hid (HK1.out.below hb2 HK1.out.lt)
            have HS2 := Lib.hid (HS1.out.below hb2)
            clear hro hb2 HS1 HK1 HB1
            go_wp2_with fail
            refine (rrows_any w2 _ K cx z4 HS2.out (by omega)).mono ?_
            rintro e w3 ⟨wv, wvals, rfl, hwo, hb3⟩
            rw [← HTT.out] at hwo ⊢
            have HWO := Lib.hid hwo
            have hz3 := hb3.size
            have HRO3 : Hid (RowsOwn w3 w1.heap.size rv vals T.1) := HRO.out.moved (fun k _ h2 => hb3.block k h2)
            have HB3 := Lib.hid (HB2.out.trans (hb3.mono HB2.out.size))
            have HK3 := Lib.hid (HK2.out.below hb3 HK2.out.lt)
            have HS3 := Lib.hid (HS2.out.below hb3)
            clear hwo hb3 HS2 HK2 HB2 HRO
            go_wp2_with fail
            refine (kept_any w3 _ _ K cx z4 HS3.out HK3.out).mono ?_
            rintro e w4 ⟨rfl, rfl⟩
            have hrow := HRO3.out.row
            have hwrow := HWO.out.row
            obtain ⟨N, hN⟩ : ∃ N, N = T.1.length := ⟨_, rfl⟩
            rw [← hN] at hrow hwrow hrl
            obtain ⟨ar, cr, rfl, hcr, har⟩ := own_form hrow
            obtain ⟨aw, cw, rfl, hcw, haw⟩ := own_form hwrow
            have HROW := Lib.hid hrow
            have HWROW := Lib.hid hwrow
            have HNN := Lib.hid hN
            clear hrow hwrow hN HS3
            go_wp2_with fail
            go_loopw [23] (fun iv wx => ∃ i m : Nat, i ≤ N ∧ iv = .int .i64 (i : Int) ∧ Hid (wx = w3.drewN m)) (fun iv _ => N - (intOf iv).toNat)
            case atStart => exact ⟨0, 0, Nat.zero_le _, rfl, rfl⟩
            case round =>
              obtain ⟨i, mm, hi, rfl, hwx⟩ := hrel
              by_cases hiq : i < N
              · obtain ⟨gr, rfl⟩ := har (by omega)
                obtain ⟨gw, rfl⟩ := haw (by omega)
                obtain ⟨q, hq⟩ : ∃ q, T.1[i]? = some q := ⟨_, List.getElem?_eq_getElem (by rw [← HNN.out]; exact hiq)⟩
                obtain ⟨v, hv⟩ : ∃ v, vals[i]? = some v := ⟨_, List.getElem?_eq_getElem (by rw [HRO3.out.len, ← HNN.out]; exact hiq)⟩
                obtain ⟨v2, hv2⟩ : ∃ v, wvals[i]? = some v := ⟨_, List.getElem?_eq_getElem (by rw [HWO.out.len, ← HNN.out]; exact hiq)⟩
                have hov := HRO3.out.own i v q hv hq
                have hov2 := HWO.out.own i v2 q hv2 hq
                obtain ⟨av, cv, rfl, -, -⟩ := own_form hov
                obtain ⟨av2, cv2, rfl, -, -⟩ := own_form hov2
                have hc1 : wr.cell? ⟨gr, i, none⟩ = some (.slice av q.length cv) := by
                  rw [hwx.out]
                  exact (HROW.out.cellAt i (by omega)).trans hv
                have hc2 : wr.cell? ⟨gw, i, none⟩ = some (.slice av2 q.length cv2) := by
                  rw [hwx.out]
                  exact (HWROW.out.cellAt i (by omega)).trans hv2
                have s1 : ∀ n, (convert 22 9 (.slice av q.length cv)).run Try.prog (wr.drewN n) = .ok (.string (strOfNums q)) (wr.drewN n) := fun n => by
                  rw [hwx.out]
                  exact own_str (w := (w3.drewN mm).drewN n) hov
                have s2 : ∀ n, (convert 22 9 (.slice av2 q.length cv2)).run Try.prog (wr.drewN n) = .ok (.string (strOfNums q)) (wr.drewN n) := fun n => by
                  rw [hwx.out]
                  exact own_str (w := (w3.drewN mm).drewN n) hov2
                have s3 := str_self (strOfNums q)
                clear hov hov2 hv hv2 hq
                go_wp2_with fail
                go_quiet (fail)
                go_wp2_with fail
                go_roundw
                case rel => exact ⟨i + 1, mm + nq, by omega, by go_num, by rw [hwx.out]; exact World.drewN_drewN _ _ _⟩
                case measure => simp [intOf]; omega
              · obtain rfl : i = N := by omega
                obtain ⟨wf, hwf⟩ : ∃ wf : World, wf = wr := ⟨_, rfl⟩
                rw [← hwf] at hwx ⊢
                clear hwf
                have HRF : Hid (RowsOwn wf w1.heap.size (.slice ar i cr) vals T.1) := by rw [hwx.out]; exact HRO3.out.moved (fun _ _ _ => rfl)
                have HKF : Hid (BlockIs wf wc.heap.size (z4 ++ [77])) := by rw [hwx.out]; exact HK3.out
                have HBF : Hid (Below w.heap.size w wf) := by rw [hwx.out]; exact below_drawn HB3.out mm
                have HZF : Hid (w1.heap.size ≤ wf.heap.size) := by rw [hwx.out]; exact Nat.le_trans hz2 hz3
                have HROF : Hid (wf.ownsRow w1.heap.size 22 1 (.slice ar i cr) i vals) := by
                  have e := HRF.out.row
                  rw [← HNN.out] at e
                  exact e
                clear HRO3 HK3 HB3 HWO HROW HWROW hwx
                go_wp2_with (at_builtin; refine wpl_append_row rfl (.tmp 137) (.tmp 139) rfl w1.heap.size _ i _ rfl HROF.out _ K (K + 1) rfl (by omega) HZF.out ?_)
                intro v6 w6 own6 gr6 hb6
                obtain ⟨a6, c6, rfl, hc6, ha6⟩ := own_form own6
                obtain ⟨R, rfl⟩ := ha6 (by omega)
                have hR4 := rows_lent (B := w.heap.size) (R := R) (rc := c6) HRF.out HKF.out hzl (by omega) hLb (by omega) gr6 (by rw [← HNN.out]; exact own6)
                rw [← HNN.out] at hR4
                have HR4 := Lib.hid hR4
                have HB6 := Lib.hid (HBF.out.trans (hb6.mono (by omega)))
                clear hR4 own6 gr6 hb6 HRF HKF HBF HROF
                go_wp2_with fail
                refine (owned_n _ w.heap.size R (i + 1) c6 _ _ _ HR4.out (by omega)).mono ?_
                rintro e w7 ⟨rfl, hb7, -, -⟩
                have HB7 := Lib.hid (HB6.out.trans hb7)
                clear hb7 HR4 HB6
                go_wp2_with fail
                refine (close_short w7 none 0 0 [] (src_nil w7) (fun _ => rfl) (by omega)).mono ?_
                rintro e w8 ⟨v8, rfl, ⟨g8, c8, rfl, -⟩, hb8⟩
                rw [show (frame []).length = 5 from by rw [frame_length]; rfl]
                have HB8 := Lib.hid (HB7.out.trans (hb8.mono HB7.out.size))
                clear hb8
                go_wp2_with fail
                go_ret
                exact ⟨rfl, HB8.out⟩

theorem srows_walk (a0 : Option Addr) (len0 cap0 : Nat) (A0 : Nat → Option Addr) (L0 C0 : Nat → Nat) (Z0 : Nat → List Int) (a1 a2 a3 : Int) (a4 : Option Addr) (len4 cap4 : Nat) (z4 : List Int) (w : World)
    (w0 : IsRows w a0 len0 cap0 A0 L0 C0 Z0) (_s0 : cap0 * 24 ≤ 140737488351232) (w1 : (Lit.int .i64 a1).wf = true) (w2 : (Lit.int .u8 a2).wf = true) (w3 : (Lit.int .i64 a3).wf = true) (w4 : IsRow .u8 w a4 len4 cap4 z4) (s4 : cap4 * 1 ≤ 140737488351232) :
    Calls Try.prog 5 #[.slice a0 len0 cap0, .int .i64 a1, .int .u8 a2, .int .i64 a3, .slice a4 len4 cap4] w fun e w' => e = .returned (.bool true) ∧ Below w.heap.size w w' := by
  have hp := pieces_in w0
  exact srows_law w a0 len0 cap0 _ a1 a2 a3 a4 len4 cap4 (z4.take len4) hp.1 hp.2.1 hp.2.2 (int_range w1).2 (by have := byte_range w2; omega) (int_range w3).2 (src_of_row w4 s4) (nil_of_row w4)

end Go.Proofs.Ytgiepkiogjkjjaa
