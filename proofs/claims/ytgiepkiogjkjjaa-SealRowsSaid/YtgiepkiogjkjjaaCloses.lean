/-
  The law SealCloses: its walk.
-/
import Derived.Test.YtgiepkiogjkjjaaROp
import Derived.Test.YtgiepkiogjkjjaaOwnN
import Derived.Deep.CutBlock
namespace Go.Proofs.Ytgiepkiogjkjjaa
open Go.RowKit

/-- An owned row is in memory of one's own: its block (a free number where it is nil), how many cells. -/
theorem own_pick {w : World} {B : Nat} {v : Value} {n : Nat} {xs : List Value} (h : w.ownsRow B 5 1 v n xs) (K : Nat) :
    ∃ g c, OwnB w v g c ∧ (v ≠ .slice none 0 0 → B ≤ g ∧ g < w.heap.size) ∧ (v = .slice none 0 0 → g = K) ∧ c ≤ 9223372036854775807 := by
  rcases h.2 with ⟨rfl, rfl⟩ | ⟨g, cap, cur, rfl, hb, hg, h3, h4, h5, _⟩
  · exact ⟨K, 0, .inl ⟨rfl, rfl⟩, fun hne => absurd rfl hne, fun _ => rfl, by omega⟩
  · exact ⟨g, cap, .inr ⟨n, rfl, h3, cur, hg, by omega⟩, fun _ => ⟨hb, lt_of_block hg⟩, (fun h => by cases h), by unfold maxLen at h4; omega⟩

def three (a b c : Value) (i : Nat) : Value := if i = 0 then a else if i = 1 then b else c
def threeN (a b c : Nat) (i : Nat) : Nat := if i = 0 then a else if i = 1 then b else c

/-- Three rows, each nil or a block of its own. -/
theorem rows3 {W : World} {B ga ca gb cb gc cc : Nat} {va vb vc : Value} (ha : OwnB W va ga ca) (hb : OwnB W vb gb cb) (hc : OwnB W vc gc cc)
    (ka : va ≠ .slice none 0 0 → B ≤ ga ∧ ga < W.heap.size) (kb : vb ≠ .slice none 0 0 → B ≤ gb ∧ gb < W.heap.size) (kc : vc ≠ .slice none 0 0 → B ≤ gc ∧ gc < W.heap.size)
    (hab : va ≠ .slice none 0 0 → vb ≠ .slice none 0 0 → ga ≠ gb) (hac : va ≠ .slice none 0 0 → vc ≠ .slice none 0 0 → ga ≠ gc) (hbc : vb ≠ .slice none 0 0 → vc ≠ .slice none 0 0 → gb ≠ gc)
    (la : ca ≤ 9223372036854775807) (lb : cb ≤ 9223372036854775807) (lc : cc ≤ 9223372036854775807) :
    Rows4 (W.alloc (.cells #[va, vb, vc] 22)) B W.heap.size 3 (three va vb vc) (threeN ga gb gc) (threeN ca cb cc) where
  head := by
    intro i hi
    rw [cell_of_row _ W.heap.size i _ _ _ (heap_alloc_new W _)]
    match i, hi with
    | 0, _ => rfl
    | 1, _ => rfl
    | 2, _ => rfl
  own := by
    intro i hi
    match i, hi with
    | 0, _ => exact ha.same (fun hne => Below.heap_alloc _ _ _ (ka hne).2)
    | 1, _ => exact hb.same (fun hne => Below.heap_alloc _ _ _ (kb hne).2)
    | 2, _ => exact hc.same (fun hne => Below.heap_alloc _ _ _ (kc hne).2)
  far := by
    intro i hi hne
    match i, hi with
    | 0, _ => exact ⟨(ka hne).1, Nat.ne_of_lt (ka hne).2⟩
    | 1, _ => exact ⟨(kb hne).1, Nat.ne_of_lt (kb hne).2⟩
    | 2, _ => exact ⟨(kc hne).1, Nat.ne_of_lt (kc hne).2⟩
  apart := by
    intro i j hi hj hij h1 h2
    match i, hi, j, hj with
    | 0, _, 1, _ => exact hab h1 h2
    | 0, _, 2, _ => exact hac h1 h2
    | 1, _, 0, _ => exact fun e => hab h2 h1 e.symm
    | 1, _, 2, _ => exact hbc h1 h2
    | 2, _, 0, _ => exact fun e => hac h2 h1 e.symm
    | 2, _, 1, _ => exact fun e => hbc h2 h1 e.symm
    | 0, _, 0, _ => exact absurd rfl hij
    | 1, _, 1, _ => exact absurd rfl hij
    | 2, _, 2, _ => exact absurd rfl hij
  small := by
    intro i hi
    match i, hi with
    | 0, _ => exact la
    | 1, _ => exact lb
    | 2, _ => exact lc

theorem PartsIn.gone {w w' : World} {pa : Option Addr} {ps : List Piece} {B G : Nat} (h : PartsIn w pa ps) (hG : w.heap.size ≤ G) (hg : Grows B G w w') (hpa : ∀ b off, pa = some ⟨b, off, none⟩ → b ≠ B) (hps : ∀ p ∈ ps, p.bs ≠ [] → ∀ b off, p.a = some ⟨b, off, none⟩ → b ≠ B) : PartsIn w' pa ps where
  cells := fun i p hp => by
    obtain ⟨b, off, ha, hc⟩ := h.cells i p hp
    refine ⟨b, off, ha, ?_⟩
    rw [← hc]
    have h2 : b < w.heap.size := World.block_lt_of_cell? w _ hc
    exact World.cell?_of_block (w := w) (hg.2.2.2.2 b (by omega) (hpa b off ha))
  srcs := fun p hp => (h.srcs p hp).gone (hps p hp) (fun k hk hn => hg.2.2.2.2 k (by omega) hn)

set_option maxHeartbeats 6400000 in
set_option maxRecDepth 20000 in
theorem closes_any (w : World) (a : Option Addr) (len cap : Nat) (bs : List Int) (b : Option Addr) (lb cb : Nat) (cs : List Int) (h : Src w a len cap bs) (hnil : a = none → cap = 0) (hb : Src w b lb cb cs) (hbn : b = none → cb = 0) :
    Calls Try.prog 4 #[.slice a len cap, .slice b lb cb] w fun e w' => e = .returned (.bool true) ∧ Below w.heap.size w w' := by
  by_cases h1 : 2097152 < len
  · have h1' : (2097152 : Int) < len := by omega
    go_enter Try.func4, Try.ntmps4
    go_wp2_with fail
    go_ret
    exact ⟨rfl, Below.refl _ _⟩
  by_cases h2 : 2097152 < lb
  · have h1' : ¬ (2097152 : Int) < len := by omega
    have h2' : (2097152 : Int) < lb := by omega
    go_enter Try.func4, Try.ntmps4
    go_wp2_with fail
    go_ret
    exact ⟨rfl, Below.refl _ _⟩
  have h1' : ¬ (2097152 : Int) < len := by omega
  have h2' : ¬ (2097152 : Int) < lb := by omega
  have H := Lib.hid h
  have HB := Lib.hid hb
  have HN := Lib.hid hnil
  have HBN := Lib.hid hbn
  have HL := Lib.hid (lent_any w a len cap bs h (by omega))
  have HCR := Lib.hid (clRow_range h.bytes)
  have hcl := clRow_length bs
  clear h hb hnil hbn
  obtain ⟨xs, hxs⟩ : ∃ xs, xs = clRow bs := ⟨_, rfl⟩
  rw [← hxs] at HCR hcl
  have HXS := Lib.hid hxs
  clear hxs
  go_enter Try.func4, Try.ntmps4
  go_wp2_with fail
  refine HL.out.mono ?_
  rintro e w1 ⟨rfl, hbk, hb1⟩
  have HBK1 := Lib.hid hbk
  have HB1 := Lib.hid hb1
  clear hbk hb1
  go_wp2_with fail
  refine (close_all w1 _ len (len + 1) bs (HBK1.out.lent H.out.size H.out.small H.out.bytes) (fun h => by cases h)).mono ?_
  rintro e w2 ⟨v1, rfl, ho1, hb2⟩
  rw [← HXS.out] at ho1
  have HO1 := Lib.hid ho1
  have HB2 := Lib.hid (HB1.out.trans (hb2.mono HB1.out.size))
  have HBK2 := Lib.hid (HBK1.out.below hb2 HBK1.out.lt)
  clear ho1 hb2
  go_wp2_with fail
  refine (rclose_all w2 a len cap bs (H.out.below HB2.out) HN.out).mono ?_
  rintro e w3 ⟨v2, rfl, ho2, hb3⟩
  rw [← HXS.out] at ho2
  have HO2 := Lib.hid ho2
  have HO3 := Lib.hid (ownsRow_below HO1.out hb3 (fun k h => (HO1.out.lt k h).2))
  have HB3 := Lib.hid (HB2.out.trans (hb3.mono HB2.out.size))
  have HBK3 := Lib.hid (HBK2.out.below hb3 HBK2.out.lt)
  have HZ12 := Lib.hid hb3.size
  have HLT1 := Lib.hid (fun k h => (HO1.out.lt k h).2)
  clear ho2 hb3 HO1 HBK1 HBK2
  go_wp2_with fail
  refine (kept_any w3 _ a len cap bs (H.out.below HB3.out) HBK3.out).mono ?_
  rintro e w4 ⟨rfl, rfl⟩
  obtain ⟨a1, c1, rfl, _, _⟩ := row_src HO3.out HCR.out (by omega)
  obtain ⟨a2, c2, rfl, hs2, hn2⟩ := row_src HO2.out HCR.out (by omega)
  have HS2 := Lib.hid hs2
  have HN2 := Lib.hid hn2
  clear hs2 hn2
  obtain ⟨cd, hcd⟩ : ∃ cd, cd = clCode len := ⟨_, rfl⟩
  rw [← hcd]
  have HCD := Lib.hid hcd
  clear hcd
  go_upto_region 7 with fail
  go_cut [70] (fun s wx => s = .bool false ∧ wx = w3)
  case first =>
    have s1 := ownsRow_string HO3.out
    have s2 := ownsRow_string HO2.out
    have s3 := str_self (strOfNums xs)
    by_cases hl : len ≤ 1048576
    · have hcc : cd = 0 := HCD.out.trans (if_pos hl)
      subst hcc
      have e : xs.length = (enc len).length + len + 4 := by rw [HXS.out, clRow, if_pos (by rw [H.out.size]; exact hl), frame_length, H.out.size]
      have hep := enc_length_pos len
      have hk : ¬ (xs.length : Int) < len + 5 := by omega
      clear e
      go_wp2_with fail
      go_meet
      exact ⟨rfl, rfl⟩
    · have hcc : cd = 2 := HCD.out.trans (if_neg hl)
      subst hcc
      go_wp2_with fail
      go_meet
      exact ⟨rfl, rfl⟩
  case rest =>
    obtain ⟨rfl, rfl⟩ := hcut
    clear HCD HO2 HBK3
    go_wp2_with (at_builtin; refine wpl_append_src rfl (.tmp 73) (.tmp 74) rfl wc.heap.size _ 0 [] rfl (ownsRow_empty wc) _ _ c2 _ (HS2.out.below ((Below.refl _ wc).alloc (Nat.le_refl _) _)) HN2.out rfl (by omega) (by simp) ?_)
    intro v5 w5 own5 gr5
    have HO5 := Lib.hid own5
    have HG5 := Lib.hid ((((Below.refl wc.heap.size wc).alloc (Nat.le_refl _) _).grown gr5 (by simp) (fun k h => ((ownsRow_empty wc).lt k h).1)))
    clear own5 gr5
    go_wp2_with (at_builtin; refine wpl_append_src rfl (.tmp 75) (.tmp 76) rfl wc.heap.size _ _ _ rfl HO5.out b lb cb cs (HB.out.below (HB3.out.trans (HG5.out.mono HB3.out.size))) HBN.out rfl (by omega) HG5.out.size ?_)
    intro v6 w6 own6 gr6
    have HG6 := Lib.hid (HG5.out.grown gr6 HG5.out.size (fun k h => (HO5.out.lt k h).1))
    have HO6 : Hid (w6.ownsRow wc.heap.size 5 1 v6 (xs.length + lb) ((xs ++ cs).map (Value.int .u8))) := by
      unfold Hid
      simpa using own6
    obtain ⟨ao6, cp6, hv6, hsrc6, _⟩ := row_src HO6.out (fun x hx => by
      rcases List.mem_append.1 hx with hx | hx
      · exact HCR.out x hx
      · exact HB.out.bytes x hx) (by omega)
    have HS6 := Lib.hid hsrc6
    have HB6 := Lib.hid (HB3.out.trans (HG6.out.mono HB3.out.size))
    subst hv6
    have HA6 : Hid (∀ g o, ao6 = some ⟨g, o, none⟩ → wc.heap.size ≤ g ∧ g < w6.heap.size) := fun g o h => HO6.out.lt g (by rw [h]; rfl)
    clear own6 gr6 hsrc6 HO5 HG5 HO6
    obtain ⟨W0, hW0⟩ : ∃ W0 : World, W0 = w6.alloc (.cells #[.slice a len cap, .slice b lb cb, .slice ao6 (xs.length + lb) cp6] 22) := ⟨_, rfl⟩
    have HPI : Hid (PartsIn W0 (some ⟨w6.heap.size, 0, none⟩) [⟨a, len, cap, bs⟩, ⟨b, lb, cb, cs⟩, ⟨ao6, xs.length + lb, cp6, xs ++ cs⟩]) := by
      rw [hW0]
      refine parts_at w6 w6.heap.size rfl _ _ rfl (fun p hp => ?_)
      simp only [List.mem_cons, List.not_mem_nil, or_false] at hp
      rcases hp with rfl | rfl | rfl
      · exact H.out.below HB6.out
      · exact HB.out.below HB6.out
      · exact HS6.out
    have HPL : Hid (∀ p ∈ [(⟨a, len, cap, bs⟩ : Piece), ⟨b, lb, cb, cs⟩, ⟨ao6, xs.length + lb, cp6, xs ++ cs⟩], p.len ≤ 4000000) := by
      intro p hp
      simp only [List.mem_cons, List.not_mem_nil, or_false] at hp
      rcases hp with rfl | rfl | rfl <;> simp only [] <;> omega
    have HZ0 : Hid (W0.heap.size = w6.heap.size + 1) := by rw [hW0]; unfold Hid; simp
    have HBW : Hid (Below w.heap.size w W0) := by rw [hW0]; exact HB6.out.alloc HB6.out.size _
    have HCW : Hid (∀ k, k < wc.heap.size → W0.heap[k]? = wc.heap[k]?) := by
      intro k hk
      rw [hW0, Below.heap_alloc _ _ _ (by have := HG6.out.size; omega)]
      exact HG6.out.block k hk
    obtain ⟨ga, ca, hoa, hga, hgn, hca⟩ := own_pick HO3.out (w6.heap.size + 1)
    have HOA : Hid (OwnB W0 (.slice a1 xs.length c1) ga ca) := hoa.same (fun hne => HCW.out ga (hga hne).2)
    have HGL : Hid (w.heap.size ≤ ga ∧ ga ≠ w6.heap.size ∧ (∀ g o, ao6 = some ⟨g, o, none⟩ → g ≠ ga) ∧ ((.slice a1 xs.length c1 : Value) ≠ .slice none 0 0 → ga < W0.heap.size)) := by
      have e1 := HB1.out.size
      have e2 := HG6.out.size
      have e3 := HB3.out.size
      have e4 := HZ0.out
      by_cases hne : (.slice a1 xs.length c1 : Value) = .slice none 0 0
      · have e5 := hgn hne
        exact ⟨by omega, by omega, fun g o h => by have := HA6.out g o h; omega, fun h => absurd hne h⟩
      · have e5 := hga hne
        exact ⟨by omega, by omega, fun g o h => by have := HA6.out g o h; omega, fun _ => by omega⟩
    have HPB : Hid (∀ p ∈ [(⟨a, len, cap, bs⟩ : Piece), ⟨b, lb, cb, cs⟩, ⟨ao6, xs.length + lb, cp6, xs ++ cs⟩], p.bs ≠ [] → ∀ g o, p.a = some ⟨g, o, none⟩ → g ≠ ga) := by
      intro p hp
      simp only [List.mem_cons, List.not_mem_nil, or_false] at hp
      rcases hp with rfl | rfl | rfl
      · exact H.out.ahead HGL.out.1
      · exact HB.out.ahead HGL.out.1
      · exact fun _ g o h => HGL.out.2.2.1 g o h
    have HCA := Lib.hid hca
    have HWW := Lib.hid hW0
    clear hoa hga hgn hca hW0 HO3 HS2 HN2 HLT1 HXS HCR
    go_wp2_with fail
    rw [← HWW.out]
    generalize hps : [(⟨a, len, cap, bs⟩ : Piece), ⟨b, lb, cb, cs⟩, ⟨ao6, xs.length + lb, cp6, xs ++ cs⟩] = ps at *
    have HPN : Hid (ps.length = 3) := by rw [← hps]; rfl
    clear hps
    obtain ⟨R, hR⟩ : ∃ R, R = w6.heap.size := ⟨_, rfl⟩
    rw [← hR] at HPI HZ0 HGL ⊢
    clear hR HWW HCW HG6 HS6
    go_loopw [12] (fun iv wr => ∃ i : Nat, i ≤ 3 ∧ iv = .int .i64 (i : Int) ∧ Hid (Grows ga (R + 1) W0 wr) ∧ Hid (OwnB wr (.slice a1 xs.length c1) ga ca) ∧ Hid (Below w.heap.size w wr)) (fun iv _ => 3 - (intOf iv).toNat)
    case atStart => exact ⟨0, by omega, rfl, Grows.refl _ _ _, HOA, HBW⟩
    case round =>
      obtain ⟨i, hi, rfl, hgr, hoa, hbe⟩ := hrel
      by_cases hi3 : i < 3
      · have hi3' : (i : Int) < 3 := by omega
        obtain ⟨p, hp⟩ : ∃ p, ps[i]? = some p := ⟨_, List.getElem?_eq_getElem (by rw [HPN.out]; exact hi3)⟩
        have hmem := List.mem_of_getElem? hp
        have hpi := HPI.out.gone (by rw [HZ0.out]; exact Nat.le_refl _) hgr.out (fun b off h => by simp only [Option.some.injEq, Addr.mk.injEq, and_true] at h; have := HGL.out.2.1; omega) HPB.out
        obtain ⟨pb, po, hpa, hcl⟩ := hpi.cells i p hp
        simp only [Option.some.injEq, Addr.mk.injEq, and_true] at hpa
        obtain ⟨rfl, rfl⟩ := hpa
        rw [Nat.zero_add] at hcl
        have hsrc := hpi.srcs p hmem
        have hpl := HPL.out p hmem
        clear hpi hmem hp
        obtain ⟨pa, pl, pc, pbs⟩ := p
        simp only [Piece.val] at hcl hsrc hpl
        have HSRC := Lib.hid hsrc
        have HLE := Lib.hid (lent_any wr pa pl pc pbs hsrc (by omega))
        have HST : Hid (∀ wx : World, Below wr.heap.size wr wx → wx.cell? ⟨R, i, none⟩ = some (.slice pa pl pc)) := fun wx hb => by
          rw [← hcl]
          exact World.cell?_of_block (w := wr) (hb.block R (World.block_lt_of_cell? wr _ hcl))
        clear hsrc
        go_wp2_with fail
        refine HLE.out.mono ?_
        rintro e u1 ⟨rfl, hbk, hb1⟩
        have HK1 := Lib.hid hbk
        have HC1 := Lib.hid hb1
        clear hbk hb1
        go_wp2_with fail
        refine (open_any u1 _ pl (pl + 1) pbs (HK1.out.lent HSRC.out.size HSRC.out.small HSRC.out.bytes)).mono ?_
        rintro e u2 ⟨vv, rfl, hov, hb2⟩
        have HOV := Lib.hid hov
        have HC2 := Lib.hid (HC1.out.trans (hb2.mono HC1.out.size))
        have HK2 := Lib.hid (HK1.out.below hb2 HK1.out.lt)
        have hcl2 := HST.out _ HC2.out
        have hZ1 := HC1.out.size
        have hK1lt := HK1.out.lt
        have hZ2 := hb2.size
        clear hov hb2 hcl
        go_wp2_with fail
        refine (ropen_any u2 pa pl pc pbs (HSRC.out.below HC2.out)).mono ?_
        rintro e u3 ⟨vu, rfl, hou, hb3⟩
        have HOU := Lib.hid hou
        have HOV3 := Lib.hid (ownsRow_below HOV.out hb3 (fun k h => (HOV.out.lt k h).2))
        have HC3 := Lib.hid (HC2.out.trans (hb3.mono HC2.out.size))
        have HK3 := Lib.hid (HK2.out.below hb3 HK2.out.lt)
        have hcl3 := HST.out _ HC3.out
        have hZ3 := hb3.size
        clear hou hb3 hcl2
        go_wp2_with fail
        refine (kept_any u3 _ pa pl pc pbs (HSRC.out.below HC3.out) HK3.out).mono ?_
        rintro e u4 ⟨rfl, rfl⟩
        have s1 := ownsRow_string HOV3.out
        have s2 := ownsRow_string HOU.out
        have s3 := str_self (strOfNums (opF pbs).1)
        obtain ⟨av, lv, cv, rfl⟩ := own_slice HOV3.out
        obtain ⟨au, lu, cu, rfl⟩ := own_slice HOU.out
        have hZW : R + 1 ≤ wr.heap.size := by have := hgr.out.2.2.2.1; have := HZ0.out; omega
        have hL3 : wr.heap.size < u3.heap.size := HK3.out.lt
        have hoa3 : OwnB u3 (.slice a1 xs.length c1) ga ca := hoa.out.same (fun hne => HC3.out.block ga (by have := HGL.out.2.2.2 hne; have := HZ0.out; omega))
        obtain ⟨gv, nv, hov3, hgv, -, hnv⟩ := own_pick HOV3.out 0
        have hol3 : OwnB u3 (.slice (some ⟨wr.heap.size, 0, none⟩) pl (pl + 1)) wr.heap.size (pl + 1) :=
          .inr ⟨pl, rfl, by omega, _, HK3.out, by simp [HSRC.out.size]⟩
        have hwz := hbe.out.size
        have hR4 := rows3 (B := w.heap.size) hoa3 hov3 hol3
          (fun hne => ⟨HGL.out.1, by have := HGL.out.2.2.2 hne; have := HZ0.out; omega⟩) (fun hne => ⟨by have := (hgv hne).1; omega, (hgv hne).2⟩) (fun _ => ⟨hwz, hL3⟩)
          (fun h1 h2 => by have := HGL.out.2.2.2 h1; have := (hgv h2).1; have := HZ0.out; omega) (fun h1 _ => by have := HGL.out.2.2.2 h1; have := HZ0.out; omega) (fun h1 _ => by have := (hgv h1).1; omega)
          HCA.out hnv (by omega)
        have HR4 := Lib.hid hR4
        have HGV := Lib.hid hgv
        clear hR4 hoa3 hov3 hgv hol3 hnv hwz
        go_wp2_with fail
        refine (owned_n _ w.heap.size _ 3 3 _ _ _ HR4.out (by omega)).mono ?_
        rintro e u5 ⟨rfl, hb5, hs5, ho5⟩
        have HOA5 : Hid (OwnB u5 (.slice a1 xs.length c1) ga ca) := ho5 0 (by omega)
        have HBU := Lib.hid (((hbe.out.trans (HC3.out.mono hbe.out.size)).alloc (by have := hbe.out.size; omega) (.cells #[.slice a1 xs.length c1, .slice av lv cv, .slice (some ⟨wr.heap.size, 0, none⟩) pl (pl + 1)] 22)).trans hb5)
        have HGR5 : Hid (Grows ga (R + 1) W0 u5) := by
          refine hgr.out.trans ⟨hb5.os.trans HC3.out.os, hb5.tape.trans HC3.out.tape, hb5.output.trans HC3.out.output, ?_, fun k hk hne => ?_⟩
          · have := hb5.size; simp at this; omega
          · rw [hs5 k ?_, Below.heap_alloc _ _ _ (by omega), HC3.out.block k (by omega)]
            intro j hj hjn
            match j, hj with
            | 0, _ => exact hne
            | 1, _ => have e := (HGV.out hjn).1; show k ≠ gv; omega
            | 2, _ => show k ≠ wr.heap.size; omega
        clear hb5 hs5 ho5 s1 s2 s3 HR4 hoa hgr hbe hcl3
        go_wp2_with fail
        go_roundw
        case rel => exact ⟨i + 1, by omega, by go_num, HGR5, HOA5, HBU⟩
        case measure => simp [intOf]; omega
      · obtain rfl : i = 3 := by omega
        go_wp2_with fail
        go_ret
        exact ⟨rfl, hbe.out⟩

theorem closes_walk (a0 : Option Addr) (len0 cap0 : Nat) (z0 : List Int) (a1 : Option Addr) (len1 cap1 : Nat) (z1 : List Int) (w : World) (w0 : IsRow .u8 w a0 len0 cap0 z0) (s0 : cap0 * 1 ≤ 140737488351232) (w1 : IsRow .u8 w a1 len1 cap1 z1) (s1 : cap1 * 1 ≤ 140737488351232) :
    Calls Try.prog 4 #[.slice a0 len0 cap0, .slice a1 len1 cap1] w fun e w' => e = .returned (.bool true) ∧ Below w.heap.size w w' :=
  closes_any w a0 len0 cap0 (z0.take len0) a1 len1 cap1 (z1.take len1) (src_of_row w0 s0) (nil_of_row w0) (src_of_row w1 s1) (nil_of_row w1)

end Go.Proofs.Ytgiepkiogjkjjaa
