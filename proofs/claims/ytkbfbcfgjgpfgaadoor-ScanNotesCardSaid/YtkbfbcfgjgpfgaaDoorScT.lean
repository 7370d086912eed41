/-
  The scanner: over the blanks; the sign's length.
-/
import Derived.Test.YtkbfbcfgjgpfgaaDoorScB
import Derived.RegionTactic
namespace Go.Proofs.YtkbfbcfgjgpfgaaDoor
open Go.RowKit

theorem drop_line (s : ByteArray) (q : Nat) (hq : q ≤ s.size) : lnK (s.data.toList.drop q) + q ≤ s.size := by
  have := lnK_le (s.data.toList.drop q)
  have e : s.data.toList.length = s.size := rfl
  rw [List.length_drop, e] at this
  omega

theorem alloc_bts (w : World) (bs : List UInt8) (t : TypeId) : Bts (w.alloc (.cells (bs.map fun x => Value.int .u8 (x.toNat : Int)).toArray t)) w.heap.size bs := fun j x hx => by
  rw [cell_of_row _ _ _ _ _ _ (heap_alloc_new w _)]
  simp [hx]

set_option maxHeartbeats 1600000 in
set_option maxRecDepth 20000 in
theorem skip_any (w : World) (b p : Nat) (s : ByteArray) (h : Scn w b p s) (hp : p ≤ s.size) (hs : s.size ≤ 140737488351232) :
    Calls Tryd.prog 23 #[.pointer (some ⟨b, 0, none⟩)] w fun e w' => e = .returned (.tuple #[]) ∧ Scn w' b (p + blK false (s.data.toList.drop p)) s ∧ Mv b w w' := by
  have HS := Lib.hid h
  clear h
  go_enter Tryd.func23, Tryd.ntmps23
  go_wp2_with fail
  go_loopw [] (fun wr => ∃ q : Nat, q ≤ s.size ∧ Hid (Scn wr b q s) ∧ Hid (p + blK false (s.data.toList.drop p) = q + blK false (s.data.toList.drop q)) ∧ Hid (Mv b w wr)) (fun wr => s.size - posOf wr b)
  case atStart => exact ⟨p, hp, HS, rfl, Mv.refl _ _⟩
  case round =>
    obtain ⟨q, hq, HQ, HE, HM⟩ := hrel
    have hsize := List.length_drop (i := q) (l := s.data.toList)
    have HST := Lib.hid (blK_steps (s.data.toList.drop q))
    obtain ⟨m, hm⟩ : ∃ m, s.data.toList.drop q = m := ⟨_, rfl⟩
    rw [hm] at HST hsize
    have HM2 := Lib.hid hm
    clear hm hsize
    have HB1 := Lib.hid (fun (W : World) (hW : W = wr.alloc (.cells #[.int .u8 47, .int .u8 47] 5)) => begins_any W b q s (by rw [hW]; exact HQ.out.alloc _) hq wr.heap.size 2 [47, 47] rfl (by rw [hW]; exact alloc_bts wr [47, 47] 5))
    rw [HM2.out] at HB1
    rcases HST.out with ⟨e1, e2, e3⟩ | ⟨e1, e2, e3, e4⟩ | ⟨e1, e2, e3⟩
    · have HX := Lib.hid (And.intro e2 e3)
      rw [e1] at HB1
      clear e1 e2 e3
      go_wp2_with fail
      refine (HB1.out _ rfl).mono ?_
      rintro e w1 ⟨rfl, k, rfl⟩
      have HS1 : Hid (Scn ((wr.alloc (.cells #[.int .u8 47, .int .u8 47] 5)).drewN k) b q s) := HQ.out.alloc _
      have HM1 : Hid (Mv b w ((wr.alloc (.cells #[.int .u8 47, .int .u8 47] 5)).drewN k)) := HM.out.trans (Mv.of b (((Below.refl _ wr).alloc (Nat.le_refl _) _).trans ((drewN_below _ k).mono (by simp))))
      obtain ⟨W1, hW1⟩ : ∃ W1, W1 = (wr.alloc (.cells #[.int .u8 47, .int .u8 47] 5)).drewN k := ⟨_, rfl⟩
      rw [← hW1] at HS1 HM1 ⊢
      clear hW1
      have HR := Lib.hid (fun n => rest_any (W1.drewN n) b q s HS1.out hq)
      have HL := Lib.hid (fun n => line_any (s.extract q s.size) (W1.drewN n))
      rw [extract_drop, HM2.out] at HL
      have HA := Lib.hid (fun n => adv_any (W1.drewN n) b q (lnK m) s HS1.out (by have := drop_line s q hq; rw [HM2.out] at this; omega))
      go_wp2_with fail
      go_region_with (first | (go_at_call 33; refine (HR.out _).mono ?_; rintro e w2 ⟨rfl, k2, rfl⟩) | (go_at_call 32; refine (HL.out _).mono ?_; rintro e w2 ⟨rfl, rfl⟩) | (go_at_call 25; refine (HA.out _).mono ?_; rintro e w2 ⟨rfl, hs2, hm2⟩))
      have HS3 := Lib.hid hs2
      have HM3 : Hid (Mv b w w2) := HM1.out.trans ((Mv.of b (drewN_below W1 _)).trans hm2)
      clear hs2 hm2
      go_wp2_with fail
      go_roundw
      case rel => exact ⟨q + lnK m, by have := drop_line s q hq; rw [HM2.out] at this; omega, HS3, by
        show p + blK false (s.data.toList.drop p) = _
        rw [HE.out, HM2.out, HX.out.2, ← HM2.out, List.drop_drop]
        omega, HM3⟩
      case measure =>
        rw [HS3.out.pos, HQ.out.pos]
        have := HX.out.1
        have := drop_line s q hq
        rw [HM2.out] at this
        omega
    · have HX := Lib.hid (And.intro e3 e4)
      have HX2 := Lib.hid e2
      rw [e1] at HB1
      clear e1 e2 e3 e4
      go_wp2_with fail
      refine (HB1.out _ rfl).mono ?_
      rintro e w1 ⟨rfl, k, rfl⟩
      have HS1 : Hid (Scn ((wr.alloc (.cells #[.int .u8 47, .int .u8 47] 5)).drewN k) b q s) := HQ.out.alloc _
      have HM1 : Hid (Mv b w ((wr.alloc (.cells #[.int .u8 47, .int .u8 47] 5)).drewN k)) := HM.out.trans (Mv.of b (((Below.refl _ wr).alloc (Nat.le_refl _) _).trans ((drewN_below _ k).mono (by simp))))
      obtain ⟨W1, hW1⟩ : ∃ W1, W1 = (wr.alloc (.cells #[.int .u8 47, .int .u8 47] 5)).drewN k := ⟨_, rfl⟩
      rw [← hW1] at HS1 HM1 ⊢
      clear hW1
      have HB2 := Lib.hid (fun (W : World) (hW : W = W1.alloc (.cells #[.int .u8 9, .int .u8 10, .int .u8 13, .int .u8 32] 5)) => beginsOne_any W b q s (by rw [hW]; exact HS1.out.alloc _) hq W1.heap.size 4 [9, 10, 13, 32] rfl (by rw [hW]; exact alloc_bts W1 [9, 10, 13, 32] 5) (by omega))
      rw [HM2.out, HX2.out] at HB2
      go_wp2_with fail
      refine (HB2.out _ rfl).mono ?_
      rintro e w2 ⟨rfl, hb⟩
      have HM2' : Hid (Mv b w w2) := HM1.out.trans (Mv.of b (((Below.refl _ W1).alloc (Nat.le_refl _) _).trans (hb.mono (by simp))))
      have HS2 : Hid (Scn w2 b q s) := (HS1.out.alloc _).below hb
      clear hb
      have HA := Lib.hid (adv_any w2 b q 1 s HS2.out (by omega))
      go_wp2_with fail
      refine HA.out.mono ?_
      rintro e w3 ⟨rfl, hs2, hm2⟩
      have HS3 := Lib.hid hs2
      have HM3 : Hid (Mv b w w3) := HM2'.out.trans hm2
      clear hs2 hm2
      have hlen : q + 1 ≤ s.size := by
        have h1 := HX.out.1
        rw [← HM2.out, List.length_drop] at h1
        have e : s.data.toList.length = s.size := rfl
        omega
      go_wp2_with fail
      go_roundw
      case rel => exact ⟨q + 1, hlen, HS3, by
        show p + blK false (s.data.toList.drop p) = _
        rw [HE.out, HM2.out, HX.out.2, ← HM2.out, List.drop_drop]
        omega, HM3⟩
      case measure =>
        rw [HS3.out.pos, HQ.out.pos]
        omega
    · have HX := Lib.hid e3
      have HX2 := Lib.hid e2
      rw [e1] at HB1
      clear e1 e2 e3
      go_wp2_with fail
      refine (HB1.out _ rfl).mono ?_
      rintro e w1 ⟨rfl, k, rfl⟩
      have HS1 : Hid (Scn ((wr.alloc (.cells #[.int .u8 47, .int .u8 47] 5)).drewN k) b q s) := HQ.out.alloc _
      have HM1 : Hid (Mv b w ((wr.alloc (.cells #[.int .u8 47, .int .u8 47] 5)).drewN k)) := HM.out.trans (Mv.of b (((Below.refl _ wr).alloc (Nat.le_refl _) _).trans ((drewN_below _ k).mono (by simp))))
      obtain ⟨W1, hW1⟩ : ∃ W1, W1 = (wr.alloc (.cells #[.int .u8 47, .int .u8 47] 5)).drewN k := ⟨_, rfl⟩
      rw [← hW1] at HS1 HM1 ⊢
      clear hW1
      have HB2 := Lib.hid (fun (W : World) (hW : W = W1.alloc (.cells #[.int .u8 9, .int .u8 10, .int .u8 13, .int .u8 32] 5)) => beginsOne_any W b q s (by rw [hW]; exact HS1.out.alloc _) hq W1.heap.size 4 [9, 10, 13, 32] rfl (by rw [hW]; exact alloc_bts W1 [9, 10, 13, 32] 5) (by omega))
      rw [HM2.out, HX2.out] at HB2
      go_wp2_with fail
      refine (HB2.out _ rfl).mono ?_
      rintro e w2 ⟨rfl, hb⟩
      have HM2' : Hid (Mv b w w2) := HM1.out.trans (Mv.of b (((Below.refl _ W1).alloc (Nat.le_refl _) _).trans (hb.mono (by simp))))
      have HS2 : Hid (Scn w2 b q s) := (HS1.out.alloc _).below hb
      clear hb
      go_wp2_with fail
      refine bodyPost_ret (results_none rfl _ _ _) rfl ?_
      exact ⟨rfl, by rw [HE.out, HM2.out, HX.out]; exact HS2.out, HM2'.out⟩

theorem two_iff (m : List UInt8) : twoS.any (fun k => k.isPrefixOf m) = twoS.contains (m.take 2) := by
  match m with
  | [] => rfl
  | [a] => simp [twoS, List.isPrefixOf]
  | a :: b :: r =>
    simp only [twoS, List.any_cons, List.any_nil, List.isPrefixOf, Bool.and_true, Bool.or_false, List.take_succ_cons, List.take_zero, List.contains_cons, List.contains_nil]
    rw [Bool.eq_iff_iff]
    simp only [Bool.or_eq_true, Bool.and_eq_true, beq_iff_eq, List.cons.injEq, and_true]
    constructor <;> (intro h; simpa [eq_comm] using h)

theorem one_iff (m : List UInt8) : oneS.any (fun c => [c].isPrefixOf m) = match m with
    | [] => false
    | c :: _ => oneS.contains c := by
  match m with
  | [] => rfl
  | c :: r =>
    simp only [List.isPrefixOf, Bool.and_true]
    rw [Bool.eq_iff_iff]
    simp

theorem sgn_two {m : List UInt8} (h : twoS.any (fun k => k.isPrefixOf m) = true) : sgn m = 2 := by
  rw [two_iff] at h
  unfold sgn
  rw [if_pos h]

theorem sgn_one {m : List UInt8} (h : twoS.any (fun k => k.isPrefixOf m) = false) (h1 : oneS.any (fun c => [c].isPrefixOf m) = true) : sgn m = 1 := by
  rw [two_iff] at h
  rw [one_iff] at h1
  unfold sgn
  rw [if_neg (by rw [h]; decide)]
  match m with
  | [] => cases h1
  | c :: r => simp only [if_pos h1]

theorem sgn_none {m : List UInt8} (h : twoS.any (fun k => k.isPrefixOf m) = false) (h1 : oneS.any (fun c => [c].isPrefixOf m) = false) : sgn m = 0 := by
  rw [two_iff] at h
  rw [one_iff] at h1
  unfold sgn
  rw [if_neg (by rw [h]; decide)]
  match m with
  | [] => rfl
  | c :: r =>
    simp only at h1
    simp only [h1]
    rfl

/-- A trial of a sign: a new row of its bytes, and whether what is left begins with them. -/
theorem sign_try {w W : World} {b p : Nat} {s : ByteArray} (h : Scn W b p s) (hb : Below w.heap.size w W) (hp : p ≤ s.size) (x y : UInt8) :
    Calls Tryd.prog 31 #[.pointer (some ⟨b, 0, none⟩), .slice (some ⟨W.heap.size, 0, none⟩) 2 2] (W.alloc (.cells #[.int .u8 (x.toNat : Int), .int .u8 (y.toNat : Int)] 5))
      fun e w' => e = .returned (.bool ([x, y].isPrefixOf (s.data.toList.drop p))) ∧ Below w.heap.size w w' ∧ Scn w' b p s := by
  refine (begins_any _ b p s (h.alloc _) hp W.heap.size 2 [x, y] rfl (alloc_bts W [x, y] 5)).mono ?_
  rintro e w1 ⟨rfl, k, rfl⟩
  exact ⟨rfl, (hb.alloc hb.size _).trans ((drewN_below _ k).mono (by have := hb.size; simp; omega)), h.alloc _⟩

end Go.Proofs.YtkbfbcfgjgpfgaaDoor
