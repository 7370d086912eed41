/-
  The law EvalNames: its walk.
-/
import Derived.Test.YthgodhojhajahaaGreatDoorVaU
import Derived.Test.YthgodhojhajahaaGreatDoorVaV
import Derived.Test.YthgodhojhajahaaGreatDoorEpLaid
namespace Go.Proofs.YthgodhojhajahaaGreatDoor
open Go.RowKit

theorem names_slices (x : GX) (w : World) (v : EV) (hx : GV w 0 w.heap.size x v) (hr : x.rng) (hn2 : (colP 2 x).length ≤ 1048576) (hn3 : (colP 3 x).length ≤ 1048576) :
    Calls Tryz.prog 15 #[v.val] w fun e w' => ∃ A2 n2 c2 A3 n3 c3, e = .returned (.tuple #[.slice A2 n2 c2, .slice A3 n3 c3]) ∧ StRow w' w.heap.size (.slice A2 n2 c2) (mkS (nmsOf 2 x)) ∧ StRow w' w.heap.size (.slice A3 n3 c3) (mkS (nmsOf 3 x)) ∧ (∀ k, (Value.slice A2 n2 c2).ownBlock = some k → (Value.slice A3 n3 c3).ownBlock ≠ some k) ∧ Below w.heap.size w w' := by
  refine (names_any x w v hx hr hn2 hn3).mono ?_
  rintro e w' ⟨v1, v2, rfl, h1, h2, h3, h4⟩
  obtain ⟨A1, c1, rfl, _⟩ := h1.str
  obtain ⟨A2, c2, rfl, _⟩ := h2.str
  exact ⟨_, _, _, _, _, _, rfl, h1, h2, h3, h4⟩

theorem row_same (w : World) (B1 B2 : Nat) (A A' : Option Addr) (n c n' c' : Nat) (xs ys : List ByteArray) (h1 : StRow w B1 (.slice A n c) xs) (h2 : StRow w B2 (.slice A' n' c') ys) :
    Calls Tryz.prog 14 #[.slice A n c, .slice A' n' c'] w fun e w' => e = .returned (.bool (decide (xs = ys))) ∧ Below w.heap.size w w' := by
  obtain ⟨D, d, e, q1, q2, q3, _⟩ := h1.str
  obtain ⟨D', d', e', r1, r2, r3, _⟩ := h2.str
  injection e with e1 e2 e3
  injection e' with f1 f2 f3
  subst e1 e2 e3 f1 f2 f3
  exact rsame6_any w _ _ _ _ _ _ xs ys q3 r3 rfl rfl ⟨q1, q2⟩ ⟨r1, r2⟩

theorem StRow.other {w : World} {base g i : Nat} {v t : Value} {xs : List ByteArray} (h : StRow w base v xs) (hg : ∀ k, v.ownBlock = some k → k ≠ g) : StRow (w.setCell ⟨g, i, none⟩ t) base v xs := by
  refine ⟨h.1, ?_⟩
  rcases h.2 with h2 | ⟨k, cap, cur, a1, a2, a3, a4⟩
  · exact .inl h2
  · exact .inr ⟨k, cap, cur, a1, a2, by rw [Below.heap_setCell w ⟨g, i, none⟩ t k (hg k (by rw [a1]; rfl))]; exact a3, a4⟩

/-- What the rows are while names are spoilt. -/
structure Spl (w0 w : World) (m : Nat) (a b c d : Value) (aS bs cs ds : List ByteArray) : Prop where
  ra : StRow w w0.heap.size a aS
  rb : StRow w w0.heap.size b bs
  rc : StRow w m c cs
  rd : StRow w m d ds
  ab : ∀ k, a.ownBlock = some k → b.ownBlock ≠ some k
  am : ∀ k, a.ownBlock = some k → k < m
  bm : ∀ k, b.ownBlock = some k → k < m
  bl : Below w0.heap.size w0 w

theorem Spl.below {w0 w w' : World} {m : Nat} {a b c d : Value} {aS bs cs ds : List ByteArray} (h : Spl w0 w m a b c d aS bs cs ds) (hb : Below w.heap.size w w') : Spl w0 w' m a b c d aS bs cs ds :=
  ⟨h.ra.below hb, h.rb.below hb, h.rc.below hb, h.rd.below hb, h.ab, h.am, h.bm, h.bl.trans (hb.mono h.bl.size)⟩

theorem Spl.swap {w0 w : World} {m : Nat} {a b c d : Value} {aS bs cs ds : List ByteArray} (h : Spl w0 w m a b c d aS bs cs ds) : Spl w0 w m b a c d bs aS cs ds :=
  ⟨h.rb, h.ra, h.rc, h.rd, fun k h1 h2 => h.ab k h2 h1, h.bm, h.am, h.bl⟩

theorem Spl.at_ {w0 w : World} {m : Nat} {A : Option Addr} {n cp : Nat} {b c d : Value} {aS bs cs ds : List ByteArray} (h : Spl w0 w m (.slice A n cp) b c d aS bs cs ds) {i : Nat} {s : ByteArray} (hi : aS[i]? = some s) :
    ∃ g, A = some ⟨g, 0, none⟩ ∧ w.cell? ⟨g, i, none⟩ = some (.string s) ∧ w.frozen? ⟨g, i, none⟩ = false ∧ ∀ t : ByteArray, Spl w0 (w.setCell ⟨g, i, none⟩ (.string t)) m (.slice A n cp) b c d (aS.set i t) bs cs ds := by
  obtain ⟨g, rfl, hb, _, h1, h2, h3⟩ := h.ra.at_ hi
  have hm := h.am g rfl
  refine ⟨g, rfl, h1, h2, fun t => ⟨h3 t, h.rb.other (fun k hk e => h.ab g rfl (by rw [hk, e])), h.rc.other (fun k hk e => by have := h.rc.lt_own k hk; omega), h.rd.other (fun k hk e => by have := h.rd.lt_own k hk; omega), h.ab, h.am, h.bm, h.bl.setCell hb _⟩⟩

set_option maxHeartbeats 3200000 in
set_option maxRecDepth 20000 in
theorem names_law (x : GX) (v : EV) (w : World) (hg : GV w 0 w.heap.size x v) (hr : x.rng) (_hf : x.fit) (hn2 : (colP 2 x).length ≤ 1048576) (hn3 : (colP 3 x).length ≤ 1048576) (hK : KwAt w) (hEr : ErrAt w) (hSg : SgAt w) :
    Calls Tryz.prog 4 #[v.val] w fun e w' => e = .returned (.bool true) ∧ Below w.heap.size w w' := by
  obtain ⟨W0, g1, hW0, hg1, HX, HB⟩ := box_new w v
  have HEE : Hid (E6 W0) := (E6.mk ⟨hK, hEr⟩ ⟨hK, hSg⟩).below HB.out
  have HS := Lib.hid (small6_any W0 HEE.out)
  have HGV := Lib.hid (fun (W : World) (hb : Below w.heap.size w W) => (GV.below hg hb (Nat.le_refl _)).mono (Nat.le_refl 0) hb.size)
  have HNM := Lib.hid (fun (W : World) (hb : Below w.heap.size w W) => names_slices x W v ((GV.below hg hb (Nat.le_refl _)).mono (Nat.le_refl 0) hb.size) hr hn2 hn3)
  have HRN := Lib.hid (fun (W : World) (hb : Below w.heap.size w W) => rNames_any x W v ((GV.below hg hb (Nat.le_refl _)).mono (Nat.le_refl 0) hb.size) hn2 hn3)
  have HL : Hid ((mkS (nmsOf 2 x)).length ≤ 1048576 ∧ (mkS (nmsOf 3 x)).length ≤ 1048576) := by
    have h2 := nmP_len 2 x []
    have h3 := nmP_len 3 x []
    rw [List.length_nil] at h2 h3
    rw [mkS_len, mkS_len]
    exact ⟨by unfold nmsOf; omega, by unfold nmsOf; omega⟩
  obtain ⟨N2, hN2⟩ : ∃ l, mkS (nmsOf 2 x) = l := ⟨_, rfl⟩
  obtain ⟨N3, hN3⟩ : ∃ l, mkS (nmsOf 3 x) = l := ⟨_, rfl⟩
  rw [hN2, hN3] at HNM HRN HL
  clear hg hr _hf hn2 hn3 hK hEr hSg hN2 hN3
  obtain ⟨k, num, S, op, A, len, cap, p⟩ := v
  simp only [EV.val] at hW0 HNM HRN ⊢
  go_enter Tryz.func4, Tryz.ntmps4
  go_upto_region 1 with fail
  rw [← hW0, ← hg1]
  clear hW0 hg1
  go_wp2_with fail
  refine HS.out.mono ?_
  rintro r w1 ⟨rfl, hb⟩
  have HB1 := Lib.hid (HB.out.trans (hb.mono HB.out.size))
  have HB01 := Lib.hid hb
  have HX1 := Lib.hid (HX.out.below hb)
  clear hb HS HEE
  have HC := Lib.hid (HNM.out w1 HB1.out)
  have z0 := HX1.out.c0
  have z1 := HX1.out.c1
  have z2 := HX1.out.c2
  have z3 := HX1.out.c3
  have z4 := HX1.out.c4
  have z5 := HX1.out.c5
  simp only at z0 z1 z2 z3 z4 z5
  go_wp2_with fail
  refine HC.out.mono ?_
  rintro r w2 ⟨A2, n2, c2, A3, n3, c3, rfl, ra, rb, rab, hb⟩
  have HRA := Lib.hid (ra.base_le HB01.out.size)
  have HRB := Lib.hid (rb.base_le HB01.out.size)
  have HRAB := Lib.hid rab
  have HB02 := Lib.hid (HB01.out.trans (hb.mono HB01.out.size))
  have HB2 := Lib.hid (HB1.out.trans (hb.mono HB1.out.size))
  have HX2 := Lib.hid (HX1.out.below hb)
  clear ra rb rab hb HC HX1 z0 z1 z2 z3 z4 z5 HB1 HB01
  have HC := Lib.hid (HRN.out w2 HB2.out)
  have z0 := HX2.out.c0
  have z1 := HX2.out.c1
  have z2 := HX2.out.c2
  have z3 := HX2.out.c3
  have z4 := HX2.out.c4
  have z5 := HX2.out.c5
  simp only at z0 z1 z2 z3 z4 z5
  go_wp2_with fail
  refine HC.out.mono ?_
  rintro r w3 ⟨A4, n4, c4, A5, n5, c5, rfl, rc, rd, hb⟩
  have HSP : Hid (Spl W0 w3 w2.heap.size (.slice A2 n2 c2) (.slice A3 n3 c3) (.slice A4 n4 c4) (.slice A5 n5 c5) N2 N3 N2 N3) :=
    ⟨HRA.out.below hb, HRB.out.below hb, rc, rd, HRAB.out, fun k hk => (World.ownsRow.lt HRA.out k hk).2, fun k hk => (World.ownsRow.lt HRB.out k hk).2, HB02.out.trans (hb.mono HB02.out.size)⟩
  clear rc rd hb HC HX2 z0 z1 z2 z3 z4 z5 HB2 HB02 HRA HRB HRAB HRN
  have HC := Lib.hid (row_same w3 _ _ _ _ _ _ _ _ N2 N2 HSP.out.ra HSP.out.rc)
  rw [decide_eq_true rfl] at HC
  go_wp2_with fail
  refine HC.out.mono ?_
  rintro r w4 ⟨rfl, hb⟩
  have HSP4 := Lib.hid (HSP.out.below hb)
  clear hb HC HSP
  have HC := Lib.hid (row_same w4 _ _ _ _ _ _ _ _ N3 N3 HSP4.out.rb HSP4.out.rd)
  rw [decide_eq_true rfl] at HC
  go_wp2_with fail
  refine HC.out.mono ?_
  rintro r w5 ⟨rfl, hb⟩
  have HSP5 := Lib.hid (HSP4.out.below hb)
  have hl2 : N2.length = n2 := by
    obtain ⟨_, _, e, _⟩ := HSP5.out.ra.str
    injection e with _ e
    exact e.symm
  have hl3 : N3.length = n3 := by
    obtain ⟨_, _, e, _⟩ := HSP5.out.rb.str
    injection e with _ e
    exact e.symm
  have HL2 := Lib.hid hl2
  have HL3 := Lib.hid hl3
  clear hb HC HSP4 hl2 hl3
  go_wp2_with fail
  go_loopw [9] (fun iv wr => ∃ (i : Nat) (aS : List ByteArray), i ≤ n2 ∧ iv = .int .i64 (i : Int) ∧ aS.length = n2 ∧ Hid (Spl W0 wr w2.heap.size (.slice A2 n2 c2) (.slice A3 n3 c3) (.slice A4 n4 c4) (.slice A5 n5 c5) aS N3 N2 N3)) (fun iv _ => n2 - (intOf iv).toNat)
  case atStart => exact ⟨0, N2, Nat.zero_le _, rfl, HL2.out, HSP5⟩
  case round =>
    obtain ⟨i, aS, hi, rfl, hal, HW⟩ := hrel
    have HAL := Lib.hid hal
    clear hal
    by_cases him : i < n2
    · have HIM := Lib.hid him
      have him' : (i : Int) < n2 := by omega
      obtain ⟨s, hs⟩ : ∃ s, aS[i]? = some s := ⟨_, List.getElem?_eq_getElem (by rw [HAL.out]; exact him)⟩
      obtain ⟨g, rfl, x0, x1, x2⟩ := HW.out.at_ hs
      have HW2 := Lib.hid (x2 ⟨#[115, 112, 111, 105, 108, 116]⟩)
      clear hs x2
      go_wp2_with fail
      go_roundw
      case rel => exact ⟨i + 1, _, by have := HIM.out; omega, by have h1 := HIM.out; have h2 := HL.out.1; have h3 := HL2.out; rw [Go.IntWalk.wrap64_in _ ⟨by omega, by omega⟩]; rfl, by rw [List.length_set]; exact HAL.out, HW2⟩
      case measure => have h1 := HIM.out; have h2 := HL.out.1; have h3 := HL2.out; rw [Go.IntWalk.wrap64_in _ ⟨by omega, by omega⟩]; simp [intOf]; omega
    · have him' : ¬ (i : Int) < n2 := by omega
      go_wp2_with fail
      go_loopw [10] (fun iv wr => ∃ (i : Nat) (bs : List ByteArray), i ≤ n3 ∧ iv = .int .i64 (i : Int) ∧ bs.length = n3 ∧ Hid (Spl W0 wr w2.heap.size (.slice A2 n2 c2) (.slice A3 n3 c3) (.slice A4 n4 c4) (.slice A5 n5 c5) aS bs N2 N3)) (fun iv _ => n3 - (intOf iv).toNat)
      case atStart => exact ⟨0, N3, Nat.zero_le _, rfl, HL3.out, HW⟩
      case round =>
        obtain ⟨j, bs, hj, rfl, hbl, HW⟩ := hrel
        have HBL := Lib.hid hbl
        clear hbl
        by_cases hjm : j < n3
        · have HJM := Lib.hid hjm
          have hjm' : (j : Int) < n3 := by omega
          obtain ⟨s, hs⟩ : ∃ s, bs[j]? = some s := ⟨_, List.getElem?_eq_getElem (by rw [HBL.out]; exact hjm)⟩
          obtain ⟨g, rfl, x0, x1, x2⟩ := HW.out.swap.at_ hs
          have HW2 := Lib.hid (x2 ⟨#[109, 111, 114, 101]⟩).swap
          clear hs x2
          go_wp2_with fail
          go_roundw
          case rel => exact ⟨j + 1, _, by have := HJM.out; omega, by have h1 := HJM.out; have h2 := HL.out.2; have h3 := HL3.out; rw [Go.IntWalk.wrap64_in _ ⟨by omega, by omega⟩]; rfl, by rw [List.length_set]; exact HBL.out, HW2⟩
          case measure => have h1 := HJM.out; have h2 := HL.out.2; have h3 := HL3.out; rw [Go.IntWalk.wrap64_in _ ⟨by omega, by omega⟩]; simp [intOf]; omega
        · have hjm' : ¬ (j : Int) < n3 := by omega
          have HX6 := Lib.hid (HX.out.below HW.out.bl)
          have HB6 := Lib.hid (HB.out.trans (HW.out.bl.mono HB.out.size))
          have HC := Lib.hid (HNM.out _ HB6.out)
          have z0 := HX6.out.c0
          have z1 := HX6.out.c1
          have z2 := HX6.out.c2
          have z3 := HX6.out.c3
          have z4 := HX6.out.c4
          have z5 := HX6.out.c5
          simp only at z0 z1 z2 z3 z4 z5
          go_wp2_with fail
          refine HC.out.mono ?_
          rintro r w7 ⟨A6, n6, c6, A7, n7, c7, rfl, rp, rq, _, hb⟩
          have HP := Lib.hid rp
          have HQ := Lib.hid rq
          have HW7 := Lib.hid (HW.out.below hb)
          have HB7 := Lib.hid (HB6.out.trans (hb.mono HB6.out.size))
          clear rp rq hb HC z0 z1 z2 z3 z4 z5 HX6 HB6
          have HC := Lib.hid (row_same w7 _ _ _ _ _ _ _ _ N2 N2 HP.out HW7.out.rc)
          rw [decide_eq_true rfl] at HC
          go_wp2_with fail
          refine HC.out.mono ?_
          rintro r w8 ⟨rfl, hb⟩
          have HQ8 := Lib.hid (HQ.out.below hb)
          have HD8 := Lib.hid (HW7.out.rd.below hb)
          have HB8 := Lib.hid (HB7.out.trans (hb.mono HB7.out.size))
          clear hb HC HP HQ HW7
          have HC := Lib.hid (row_same w8 _ _ _ _ _ _ _ _ N3 N3 HQ8.out HD8.out)
          rw [decide_eq_true rfl] at HC
          go_wp2_with fail
          refine HC.out.mono ?_
          rintro r w9 ⟨rfl, hb⟩
          have HB9 := Lib.hid (HB8.out.trans (hb.mono HB8.out.size))
          clear hb HC
          go_wp2_with fail
          go_ret
          exact ⟨rfl, HB9.out⟩

end Go.Proofs.YthgodhojhajahaaGreatDoor
