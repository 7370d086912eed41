/-
  The law SealJoins: its walk.
-/
import Derived.Test.YtgiepkiogjkjjaaTornW
import Derived.Test.YtgiepkiogjkjjaaAppR
import Derived.Deep.CutBlock
namespace Go.Proofs.Ytgiepkiogjkjjaa
open Go.RowKit

/-- A row of slices of bytes that the law has gathered: what it leads to came in. -/
structure AllAt (w wr : World) (Q : List Piece) (av : Value) : Prop where
  own : wr.ownsRow w.heap.size 22 1 av Q.length (Q.map Piece.val)
  srcs : ∀ p ∈ Q, Src w p.a p.len p.cap p.bs ∧ (p.a = none → p.cap = 0)
  below : Below w.heap.size w wr

theorem AllAt.push {w wr w2 : World} {Q : List Piece} {av av2 : Value} {p : Piece} (h : AllAt w wr Q av) (hp : Src w p.a p.len p.cap p.bs ∧ (p.a = none → p.cap = 0))
    (ho : w2.ownsRow w.heap.size 22 1 av2 (Q.length + 1) (Q.map Piece.val ++ [p.val])) (hb : Below w.heap.size w w2) : AllAt w w2 (Q ++ [p]) av2 where
  own := by simpa using ho
  srcs := fun q hq => by
    rcases List.mem_append.1 hq with hq | hq
    · exact h.srcs q hq
    · rw [List.mem_singleton] at hq; subst hq; exact hp
  below := hb

/-- What has been framed of them so far. -/
structure JoinAt (w wr : World) (Q : List Piece) (k m : Nat) (xv av : Value) : Prop where
  short : ∀ p ∈ Q.take k, p.len ≤ 1048576
  size : m = (frames (plains (Q.take k))).length
  rows : wr.ownsRow w.heap.size 5 1 xv m ((frames (plains (Q.take k))).map (Value.int .u8))
  all : AllAt w wr Q av

theorem rw_whole (Ls : List (List Int)) (h : ∀ p ∈ Ls, InB p ∧ p.length ≤ 1048576) : rw' (frames Ls) = (Ls, (frames Ls).length, 0) := by
  have e := rw_frames Ls [] h (by intro x hx; simp at hx)
  rw [List.append_nil] at e
  rw [e, onR_nil]

set_option maxHeartbeats 6400000 in
set_option maxRecDepth 20000 in
theorem joins_any (w : World) (a : Option Addr) (n cap : Nat) (ps : List Piece) (b : Option Addr) (m cb : Nat) (qs : List Piece) (hP : PartsIn w a ps) (hnil : ∀ p ∈ ps, p.a = none → p.cap = 0) (hn : ps.length = n)
    (hQ : PartsIn w b qs) (hqnil : ∀ p ∈ qs, p.a = none → p.cap = 0) (hm : qs.length = m) :
    Calls Try.prog 9 #[.slice a n cap, .slice b m cb] w fun e w' => e = .returned (.bool true) ∧ Below w.heap.size w w' := by
  obtain ⟨i0, hi, hz0, hz1, hz2⟩ := info_parts infoS
  have HP := Lib.hid hP
  have HNIL := Lib.hid hnil
  have HN := Lib.hid hn
  have HQ := Lib.hid hQ
  have HQNIL := Lib.hid hqnil
  have HM := Lib.hid hm
  clear hP hnil hn hQ hqnil hm
  go_enter Try.func9, Try.ntmps9
  go_upto_block 0 with fail
  go_cut [7] (fun av wx => ∃ Q : List Piece, Q.length ≤ 12 ∧ Hid (AllAt w wx Q av))
  case first =>
    go_wp2_with fail
    go_loopw [7, 8] (fun av iv wr => ∃ k : Nat, k ≤ n ∧ k ≤ 12 ∧ iv = .int .i64 (k : Int) ∧ ∃ Q : List Piece, Hid (Q.length = k) ∧ Hid (AllAt w wr Q av)) (fun _ iv _ => 12 - (intOf iv).toNat)
    case atStart => exact ⟨0, Nat.zero_le _, Nat.zero_le _, rfl, [], rfl, World.ownsRow_nil _ _ _ _, by simp, Below.refl _ _⟩
    case round =>
      obtain ⟨k, hk, hk12, rfl, Q, hQl, hA⟩ := hrel
      by_cases hkn : k < n
      · by_cases hkt : k < 12
        · obtain ⟨p, hp⟩ : ∃ p, ps[k]? = some p := ⟨_, List.getElem?_eq_getElem (by rw [HN.out]; exact hkn)⟩
          obtain ⟨pb, po, rfl, hcl0⟩ := HP.out.cells k p hp
          have hcl : wr.cell? ⟨pb, po + k, none⟩ = some p.val := by
            rw [← hcl0]
            exact World.cell?_of_block (w := w) (hA.out.below.block pb (World.block_lt_of_cell? w _ hcl0))
          have HPP : Hid (Src w p.a p.len p.cap p.bs ∧ (p.a = none → p.cap = 0)) := ⟨HP.out.srcs p (List.mem_of_getElem? hp), HNIL.out p (List.mem_of_getElem? hp)⟩
          have hkt' : (k : Int) < 12 := by omega
          have HW : Hid (wr.ownsRow w.heap.size 22 1 u7 k (Q.map Piece.val)) := by rw [← hQl.out]; exact hA.out.own
          clear hcl0 hp
          obtain ⟨pa, len, c, bs⟩ := p
          simp only [Piece.val] at hcl
          go_wp2_with (at_builtin; refine wpl_append_row rfl (.tmp 29) (.tmp 34) rfl w.heap.size _ k _ rfl HW.out pa len c rfl (by omega) hA.out.below.size ?_)
          intro v7 w7 own7 gr7 hb7
          have HB7 := Lib.hid (hA.out.below.trans hb7)
          have HA7 : Hid (AllAt w w7 (Q ++ [⟨pa, len, c, bs⟩]) v7) := hA.out.push HPP.out (by rw [hQl.out]; exact own7) HB7.out
          have HL7 : Hid ((Q ++ [(⟨pa, len, c, bs⟩ : Piece)]).length = k + 1) := by have := hQl.out; unfold Hid; simp; omega
          clear own7 gr7 hb7 HB7 HW hA
          go_wp2_with fail
          go_roundw
          case rel => exact ⟨k + 1, by omega, by omega, by go_num, _, HL7, HA7⟩
          case measure => simp [intOf]; omega
        · have hkt' : ¬ (k : Int) < 12 := by omega
          go_wp2_with fail
          go_meet
          exact ⟨Q, by rw [hQl.out]; exact hk12, hA⟩
      · go_wp2_with fail
        go_meet
        exact ⟨Q, by rw [hQl.out]; exact hk12, hA⟩
  case rest =>
    obtain ⟨Q1, hQ1, HA1⟩ := hcut
    go_upto_block 2 with fail
    go_cut [7] (fun av wx => ∃ Q : List Piece, Q.length ≤ 24 ∧ Hid (AllAt w wx Q av))
    case first =>
      go_wp2_with fail
      go_loopw [7, 9] (fun av iv wr => ∃ k : Nat, k ≤ m ∧ k ≤ 12 ∧ iv = .int .i64 (k : Int) ∧ ∃ Q : List Piece, Q.length ≤ 12 + k ∧ Hid (AllAt w wr Q av)) (fun _ iv _ => 12 - (intOf iv).toNat)
      case atStart => exact ⟨0, Nat.zero_le _, Nat.zero_le _, rfl, Q1, by omega, HA1⟩
      case round =>
        obtain ⟨k, hk, hk12, rfl, Q, hQl, hA⟩ := hrel
        by_cases hkn : k < m
        · by_cases hkt : k < 12
          · obtain ⟨p, hp⟩ : ∃ p, qs[k]? = some p := ⟨_, List.getElem?_eq_getElem (by rw [HM.out]; exact hkn)⟩
            obtain ⟨pb, po, rfl, hcl0⟩ := HQ.out.cells k p hp
            have hcl : wr.cell? ⟨pb, po + k, none⟩ = some p.val := by
              rw [← hcl0]
              exact World.cell?_of_block (w := w) (hA.out.below.block pb (World.block_lt_of_cell? w _ hcl0))
            have HPP : Hid (Src w p.a p.len p.cap p.bs ∧ (p.a = none → p.cap = 0)) := ⟨HQ.out.srcs p (List.mem_of_getElem? hp), HQNIL.out p (List.mem_of_getElem? hp)⟩
            have hkt' : (k : Int) < 12 := by omega
            clear hcl0 hp
            obtain ⟨pa, len, c, bs⟩ := p
            simp only [Piece.val] at hcl
            go_wp2_with (at_builtin; refine wpl_append_row rfl (.tmp 46) (.tmp 51) rfl w.heap.size _ _ _ rfl hA.out.own pa len c rfl (by omega) hA.out.below.size ?_)
            intro v7 w7 own7 gr7 hb7
            have HB7 := Lib.hid (hA.out.below.trans hb7)
            have HA7 : Hid (AllAt w w7 (Q ++ [⟨pa, len, c, bs⟩]) v7) := hA.out.push HPP.out own7 HB7.out
            clear own7 gr7 hb7 HB7 hA
            go_wp2_with fail
            go_roundw
            case rel => exact ⟨k + 1, by omega, by omega, by go_num, _, by simp; omega, HA7⟩
            case measure => simp [intOf]; omega
          · have hkt' : ¬ (k : Int) < 12 := by omega
            go_wp2_with fail
            go_meet
            exact ⟨Q, by omega, hA⟩
        · go_wp2_with fail
          go_meet
          exact ⟨Q, by omega, hA⟩
    case rest =>
      obtain ⟨Q, hQ, HA⟩ := hcut
      clear HA1
      obtain ⟨N, hN⟩ : ∃ N, N = Q.length := ⟨_, rfl⟩
      have HNQ := Lib.hid hN
      rw [← hN] at hQ
      obtain ⟨av, cv, hav, hcv, hgv⟩ := own_form HA.out.own
      rw [← hN] at hav hcv hgv
      have HAV := Lib.hid hav
      clear hN
      subst hav
      have HBc := Lib.hid HA.out.below
      obtain ⟨wb, hwb⟩ : ∃ wb : World, wb = wc := ⟨_, rfl⟩
      rw [← hwb] at HA HBc ⊢
      clear hwb
      go_wp2_with fail
      go_loopw [5, 6, 10] (fun xv nv iv wr => ∃ (k s : Nat), k ≤ N ∧ iv = .int .i64 (k : Int) ∧ nv = .int .i64 (s : Int) ∧ s ≤ 1048600 * k ∧ Hid (JoinAt w wr Q k s xv (.slice av N cv))) (fun _ _ iv _ => N - (intOf iv).toNat)
      case atStart =>
        exact ⟨0, 0, Nat.zero_le _, rfl, rfl, Nat.zero_le _, ⟨by simp, rfl, World.ownsRow_nil _ _ _ _, HA.out⟩⟩
      case round =>
        obtain ⟨k, s, hk, rfl, rfl, hs, hJ⟩ := hrel
        by_cases hkn : k < N
        · obtain ⟨gv, rfl⟩ := hgv (by omega)
          obtain ⟨p, hp⟩ : ∃ p, Q[k]? = some p := ⟨_, List.getElem?_eq_getElem (by rw [← HNQ.out]; exact hkn)⟩
          have hcl : wr.cell? ⟨gv, k, none⟩ = some p.val := by
            have e := hJ.out.all.own
            rw [← HNQ.out] at e
            rw [e.cellAt k (by omega)]
            simp [hp]
          have HPP := Lib.hid (hJ.out.all.srcs p (List.mem_of_getElem? hp))
          have HPG := Lib.hid hp
          clear hp
          obtain ⟨pa, len, c, bs⟩ := p
          simp only [Piece.val] at hcl HPP
          by_cases hl : len ≤ 1048576
          · have HCS := Lib.hid (close_short wr pa len c bs (HPP.out.1.below hJ.out.all.below) HPP.out.2 hl)
            have hfl := frame_length bs
            have hel := enc_length bs.length (by have := HPP.out.1.size; omega)
            rw [HPP.out.1.size] at hfl hel
            obtain ⟨F, hF⟩ : ∃ F, F = frame bs := ⟨_, rfl⟩
            have HFR : Hid (∀ x ∈ F, 0 ≤ x ∧ x < 256) := by rw [hF]; exact frame_range HPP.out.1.bytes
            have HPS : Hid (frames (plains (Q.take (k + 1))) = frames (plains (Q.take k)) ++ F) := by
              unfold Hid
              rw [plains_snoc HPG.out, frames_snoc, hF]
            have HSH : Hid (∀ p ∈ Q.take (k + 1), p.len ≤ 1048576) := by
              intro q hq
              have hk1 := (List.getElem?_eq_some_iff.1 HPG.out).1
              have hk2 := (List.getElem?_eq_some_iff.1 HPG.out).2
              rw [List.take_succ_eq_append_getElem hk1, hk2] at hq
              rcases List.mem_append.1 hq with hq | hq
              · exact hJ.out.short q hq
              · rw [List.mem_singleton] at hq; subst hq; exact hl
            rw [← hF] at HCS hfl
            clear hF
            obtain ⟨L, hL⟩ : ∃ L, L = F.length := ⟨_, rfl⟩
            have hLb : L ≤ 1048600 := by omega
            have HL := Lib.hid hL
            clear hL hfl hel
            go_wp2_with fail
            refine HCS.out.mono ?_
            rintro e w1 ⟨v1, rfl, hm1, hb1⟩
            obtain ⟨g1, c1, rfl, hs1⟩ := hm1.src HFR.out (by have := HL.out; omega)
            rw [← HL.out] at hs1 ⊢
            have HS1 := Lib.hid hs1
            have HO1 : Hid (w1.ownsRow w.heap.size 5 1 u5 s ((frames (plains (Q.take k))).map (Value.int .u8))) := ownsRow_below hJ.out.rows hb1 (fun k h => (hJ.out.rows.lt k h).2)
            have HA1 : Hid (w1.ownsRow w.heap.size 22 1 (.slice (some ⟨gv, 0, none⟩) N cv) Q.length (Q.map Piece.val)) := ownsRow_below hJ.out.all.own hb1 (fun k h => (hJ.out.all.own.lt k h).2)
            have HBT := Lib.hid (hJ.out.all.below.trans (hb1.mono hJ.out.all.below.size))
            have HMS := Lib.hid hJ.out.size
            have HSR := Lib.hid hJ.out.all.srcs
            clear hm1 hs1 hb1 hcl
            go_wp2_with (at_builtin; refine wpl_append_src rfl (.tmp 79) (.tmp 80) rfl w.heap.size _ s _ rfl HO1.out _ L c1 F HS1.out (fun h => by cases h) rfl (by omega) HBT.out.size ?_)
            intro v6 w6 own6 gr6
            have HO6 : Hid (w6.ownsRow w.heap.size 5 1 v6 (s + L) ((frames (plains (Q.take (k + 1)))).map (Value.int .u8))) := by
              unfold Hid
              rw [HPS.out, List.map_append]; exact own6
            have HA6 : Hid (w6.ownsRow w.heap.size 22 1 (.slice (some ⟨gv, 0, none⟩) N cv) Q.length (Q.map Piece.val)) := HA1.out.kept gr6 (own_apart (by decide) HO1.out HA1.out)
            have HB6 := Lib.hid (HBT.out.grown gr6 HBT.out.size (fun k h => (HO1.out.lt k h).1))
            have HJ6 : Hid (JoinAt w w6 Q (k + 1) (s + L) v6 (.slice (some ⟨gv, 0, none⟩) N cv)) :=
              ⟨HSH.out, by rw [HPS.out, List.length_append, ← HMS.out, ← HL.out], HO6.out, HA6.out, HSR.out, HB6.out⟩
            clear own6 gr6 HO1 HA1 HBT HO6 HA6 HB6 hJ
            go_wp2_with fail
            go_roundw
            case rel => exact ⟨k + 1, s + L, by omega, by go_num, by go_num, by omega, HJ6⟩
            case measure => simp [intOf]; omega
          · have hl' : (1048576 : Int) < len := by omega
            go_wp2_with fail
            refine (close_long wr pa len c (by omega)).mono ?_
            rintro e w1 ⟨rfl, rfl⟩
            go_wp2_with fail
            go_ret
            exact ⟨rfl, hJ.out.all.below⟩
        · obtain rfl : k = N := by omega
          have HTK : Hid (Q.take k = Q) := List.take_of_length_le (by rw [← HNQ.out]; exact Nat.le_refl _)
          have HSH : Hid (∀ p ∈ plains Q, InB p ∧ p.length ≤ 1048576) := by
            intro p hp
            obtain ⟨q, hq, rfl⟩ := List.mem_map.1 hp
            have h1 := (hJ.out.all.srcs q hq).1
            exact ⟨h1.bytes, by rw [h1.size]; exact hJ.out.short q (by rw [HTK.out]; exact hq)⟩
          have hrows := hJ.out.rows
          have hsz := hJ.out.size
          rw [HTK.out] at hrows hsz
          obtain ⟨ax, cx, rfl, hsx, -⟩ := row_src hrows (frames_range (fun p hp => (HSH.out p hp).1)) (by omega)
          have HRW := Lib.hid (srows_any wr ax s cx _ hsx (by omega))
          rw [rw_whole _ HSH.out, ← hsz] at HRW
          have hpl : (plains Q).length = k := by rw [HNQ.out]; simp [plains]
          have HPL : Hid (∀ i (p : Piece), Q[i]? = some p → (plains Q)[i]? = some p.bs) := fun i p h => by unfold plains; rw [List.getElem?_map, h]; rfl
          have HSZ := Lib.hid hsz
          have HALL := Lib.hid hJ.out.all
          clear hrows hsz hsx hJ HTK
          go_wp2_with fail
          refine HRW.out.mono ?_
          rintro e w2 ⟨rv, vals, rfl, hro, hb2⟩
          simp only at hro ⊢
          have HRO := Lib.hid hro
          have HB2 := Lib.hid (HALL.out.below.trans (hb2.mono HALL.out.below.size))
          have HAV2 : Hid (w2.ownsRow w.heap.size 22 1 (.slice av k cv) k (Q.map Piece.val)) := by
            have e := ownsRow_below HALL.out.own hb2 (fun k h => (HALL.out.own.lt k h).2)
            rw [← HNQ.out] at e
            exact e
          have hrow := hro.row
          rw [hpl] at hrow
          obtain ⟨ar, cr, rfl, hcr, har⟩ := own_form hrow
          have HROW := Lib.hid hrow
          clear hro hb2 hrow HRW
          go_wp2_with fail
          refine (close_short w2 none 0 0 [] (src_nil w2) (fun _ => rfl) (by omega)).mono ?_
          rintro e w3 ⟨v3, rfl, ⟨g3, c3, rfl, -⟩, hb3⟩
          rw [show (frame []).length = 5 from by rw [frame_length]; rfl]
          have HB3 := Lib.hid (HB2.out.trans (hb3.mono HB2.out.size))
          have HB23 := Lib.hid hb3
          clear hb3
          go_wp2_with fail
          go_loopw [18] (fun iv wx => ∃ i m : Nat, i ≤ k ∧ iv = .int .i64 (i : Int) ∧ Hid (wx = w3.drewN m)) (fun iv _ => k - (intOf iv).toNat)
          case atStart => exact ⟨0, 0, Nat.zero_le _, rfl, rfl⟩
          case round =>
            obtain ⟨i, mm, hi, rfl, hwx⟩ := hrel
            by_cases hiq : i < k
            · obtain ⟨gr, rfl⟩ := har (by omega)
              obtain ⟨gv, rfl⟩ := hgv (by omega)
              obtain ⟨p, hp⟩ : ∃ p, Q[i]? = some p := ⟨_, List.getElem?_eq_getElem (by rw [← HNQ.out]; exact hiq)⟩
              have hiv : i < vals.length := by rw [HRO.out.len, hpl]; exact hiq
              obtain ⟨v, hv⟩ : ∃ v, vals[i]? = some v := ⟨_, List.getElem?_eq_getElem hiv⟩
              have hov := ownsRow_below (HRO.out.own i v p.bs hv (HPL.out i p hp)) HB23.out (fun k h => ((HRO.out.own i v p.bs hv (HPL.out i p hp)).lt k h).2)
              obtain ⟨av2, cv2, rfl, -, -⟩ := own_form hov
              have hc1 : wr.cell? ⟨gr, i, none⟩ = some (.slice av2 p.bs.length cv2) := by
                have e := ownsRow_below HROW.out HB23.out (fun k h => (HROW.out.lt k h).2)
                rw [hwx.out]
                exact (e.cellAt i (by omega)).trans hv
              have hc2 : wr.cell? ⟨gv, i, none⟩ = some p.val := by
                have e := ownsRow_below HAV2.out HB23.out (fun k h => (HAV2.out.lt k h).2)
                rw [hwx.out]
                exact (e.cellAt i (by omega)).trans (by simp [hp])
              have s1 : ∀ n, (convert 22 9 (.slice av2 p.bs.length cv2)).run Try.prog (wr.drewN n) = .ok (.string (strOfNums p.bs)) (wr.drewN n) := fun n => by
                rw [hwx.out]
                exact own_str (w := (w3.drewN mm).drewN n) hov
              have hsp := (HALL.out.srcs p (List.mem_of_getElem? hp)).1.below HB3.out
              have s2 : ∀ n, (convert 22 9 p.val).run Try.prog (wr.drewN n) = .ok (.string (strOfNums p.bs)) (wr.drewN n) := fun n => by
                rw [hwx.out]
                exact (hsp.heap (w' := (w3.drewN mm).drewN n) rfl).str
              have s3 := str_self (strOfNums p.bs)
              clear hov hv hp hsp hiv
              obtain ⟨pa, pl, pc, pbs⟩ := p
              simp only [Piece.val] at hc1 hc2 s1 s2 s3
              go_wp2_with fail
              go_quiet (fail)
              go_wp2_with fail
              go_roundw
              case rel => exact ⟨i + 1, mm + nq, by omega, by go_num, by rw [hwx.out]; exact World.drewN_drewN _ _ _⟩
              case measure => simp [intOf]; omega
            · obtain rfl : i = k := by omega
              have HB4 : Hid (Below w.heap.size w wr) := by rw [hwx.out]; exact below_drawn HB3.out mm
              go_wp2_with fail
              go_ret
              exact ⟨rfl, HB4.out⟩

theorem joins_walk (a0 : Option Addr) (len0 cap0 : Nat) (A0 : Nat → Option Addr) (L0 C0 : Nat → Nat) (Z0 : Nat → List Int) (a1 : Option Addr) (len1 cap1 : Nat) (A1 : Nat → Option Addr) (L1 C1 : Nat → Nat) (Z1 : Nat → List Int) (w : World)
    (w0 : IsRows w a0 len0 cap0 A0 L0 C0 Z0) (_s0 : cap0 * 24 ≤ 140737488351232) (w1 : IsRows w a1 len1 cap1 A1 L1 C1 Z1) (_s1 : cap1 * 24 ≤ 140737488351232) :
    Calls Try.prog 9 #[.slice a0 len0 cap0, .slice a1 len1 cap1] w fun e w' => e = .returned (.bool true) ∧ Below w.heap.size w w' := by
  have hp := pieces_in w0
  have hq := pieces_in w1
  exact joins_any w a0 len0 cap0 _ a1 len1 cap1 _ hp.1 hp.2.1 hp.2.2 hq.1 hq.2.1 hq.2.2

end Go.Proofs.Ytgiepkiogjkjjaa
