/-
  Copies of expressions: the walk.
-/
import Derived.Test.YthgodhojhajahaaGreatDoorEvC
import Derived.Test.YthgodhojhajahaaGreatDoorXF
namespace Go.Proofs.YthgodhojhajahaaGreatDoor
open Go.RowKit

def ECp (l : List GX) : Prop := GX.fits l → l.length * 72 ≤ 140737488351232 → ∀ (w : World) (A : Option Addr) (cap : Nat), GRow w 0 w.heap.size l A 0 → l.length ≤ cap →
  Calls Tryz.prog 8 #[.slice A l.length cap] w fun e w' => ∃ A' c', e = .returned (.slice A' l.length c') ∧ l.length ≤ c' ∧ c' ≤ maxLen ∧ GRow w' w.heap.size w'.heap.size l A' 0 ∧ Below w.heap.size w w'

theorem fit_parts {x : GX} (h : x.fit) : x.subs.length * 72 ≤ 140737488351232 ∧ GX.fits x.subs := by
  obtain ⟨k, n, s, o, l, p⟩ := x
  rw [GX.fit] at h
  exact h

theorem GV.resub {w w' : World} {lo lo' hi hi' : Nat} {x : GX} {v : EV} {A' : Option Addr} {c' : Nat} (h : GV w lo hi x v) (hr : GRow w' lo' hi' x.subs A' 0) (hl : x.subs.length ≤ c') (hm : c' ≤ maxLen) :
    GV w' lo' hi' x ⟨v.kind, v.num, v.name, v.op, A', x.subs.length, c', v.p⟩ := by
  obtain ⟨a1, a2, a3, a4, a5, a6, a7, a8, a9⟩ := h.out
  obtain ⟨k, n, s, o, l, p⟩ := x
  unfold GV
  exact ⟨a1, a2, a3, a4, a5, rfl, hl, hm, hr⟩

set_option maxHeartbeats 3200000 in
set_option maxRecDepth 20000 in
theorem copied_step (xs : List GX) (ih : ∀ (i : Nat) (z : GX), xs[i]? = some z → ECp z.subs) : ECp xs := by
  intro hf hlen w A cap hrow hcap
  have HIH := Lib.hid ih
  have HFI := Lib.hid (fun (i : Nat) (z : GX) (h : xs[i]? = some z) => fit_parts (fits_get hf h))
  have HROW := Lib.hid hrow
  obtain ⟨n, hn⟩ : ∃ n, xs.length = n := ⟨_, rfl⟩
  have HLN := Lib.hid hn
  rw [hn] at hlen hcap ⊢
  clear ih hf hrow hn
  go_enter Tryz.func8, Tryz.ntmps8
  go_wp2_with fail
  go_loopw [3, 4] (fun ov iv wr => ∃ (i : Nat) (vs : List EV), i ≤ n ∧ iv = .int .i64 (i : Int) ∧ vs.length = i ∧ Hid (Cps wr w.heap.size ov xs vs) ∧ Hid (Below w.heap.size w wr)) (fun _ iv _ => n - (intOf iv).toNat)
  case atStart => exact ⟨0, [], Nat.zero_le _, rfl, rfl, ⟨World.ownsRow_nil _ _ _ _, Nat.zero_le _, fun j u hu => by simp at hu⟩, Below.refl _ _⟩
  case round =>
    rename_i ov iv
    obtain ⟨i, vs, hi, rfl, hvl, HCP, HB⟩ := hrel
    by_cases him : i < n
    · have HIM := Lib.hid him
      have him' : (i : Int) < n := by omega
      obtain ⟨z, hz⟩ : ∃ z, xs[i]? = some z := ⟨_, List.getElem?_eq_getElem (by rw [HLN.out]; exact him)⟩
      obtain ⟨g, o, v', rfl, _, hg, hev, hgv⟩ := HROW.out.get i z hz
      rw [Nat.zero_add] at hev
      obtain ⟨x0, x1, x2, x3, x4, x5⟩ := hev.same (HB.out.block g hg)
      obtain ⟨g5, hg5⟩ : ∃ g5, g5 = wr.heap.size := ⟨_, rfl⟩
      obtain ⟨W1, hW1⟩ : ∃ W1, W1 = wr.alloc (.cells #[.int .i64 v'.kind, .int .i64 v'.num, .string v'.name, .int .i64 v'.op, .slice v'.A v'.len v'.cap, .int .i64 v'.p] 24) := ⟨_, rfl⟩
      have hb1 : Below wr.heap.size wr W1 := by rw [hW1]; exact (Below.refl _ wr).alloc (Nat.le_refl _) _
      have HX1 : Hid (XpB W1 g5 v') := by rw [hW1, hg5]; exact XpB.new wr v'
      have HB1 := Lib.hid (HB.out.trans (hb1.mono HB.out.size))
      have hgw1 : GV W1 0 W1.heap.size z v' := (GV.below hgv HB1.out (Nat.le_refl _)).mono (Nat.le_refl _) HB1.out.size
      have HGW := Lib.hid hgw1
      obtain ⟨l1, l2, l3, l4, l5, l6, l7, l8, l9⟩ := hgw1.out
      have HC := Lib.hid (HIH.out i z hz (HFI.out i z hz).2 (HFI.out i z hz).1 W1 v'.A v'.cap l9 (by rw [← l6]; exact l7))
      rw [← l6] at HC
      have HL6 := Lib.hid l6
      have HZ := Lib.hid hz
      have hs1 : W1.heap.size = g5 + 1 := by rw [hW1, hg5]; simp
      have HS1 := Lib.hid hs1
      have HG5 := Lib.hid hg5
      have HVL := Lib.hid hvl
      have HBW1 := Lib.hid hb1
      obtain ⟨k2, num2, S2, op2, A2, len2, cap2, p2⟩ := v'
      simp only at x0 x1 x2 x3 x4 x5 hW1 HC HL6
      clear hev hgv hz hg hb1 hgw1 l1 l2 l3 l4 l5 l6 l7 l8 l9 hs1 hvl
      go_upto_region 6 with fail
      rw [← hW1, ← hg5]
      clear hW1 hg5 x0 x1 x2 x3 x4 x5
      have z4 := HX1.out.c4
      simp only at z4
      go_wp2_with fail
      refine HC.out.mono ?_
      rintro e w2 ⟨A', c', rfl, hlc, hcm, hgr, hb⟩
      obtain ⟨W3, hW3⟩ : ∃ W3, W3 = w2.setCell ⟨g5, 4, none⟩ (.slice A' len2 c') := ⟨_, rfl⟩
      have hb3 : Below wr.heap.size wr W3 := by
        rw [hW3]
        exact (HBW1.out.trans (hb.mono HBW1.out.size)).setCell (p := ⟨g5, 4, none⟩) (by rw [HG5.out]; exact Nat.le_refl _) _
      have HX2 := Lib.hid (HX1.out.below hb)
      have HX3 : Hid (XpB W3 g5 ⟨k2, num2, S2, op2, A', len2, c', p2⟩) := by
        rw [hW3]
        exact heap_setCell_same w2 g5 4 _ _ _ HX2.out
      have hgr3 : GRow W3 W1.heap.size W3.heap.size z.subs A' 0 := by
        have e : W3.heap.size = w2.heap.size := by rw [hW3]; simp
        rw [e]
        refine hgr.same (fun j h1 _ => ?_)
        rw [hW3]
        exact Below.heap_setCell w2 ⟨g5, 4, none⟩ _ j (by have := HS1.out; show j ≠ g5; omega)
      have hgv3 : GV W3 W1.heap.size W3.heap.size z ⟨k2, num2, S2, op2, A', len2, c', p2⟩ := by
        have := GV.resub HGW.out hgr3 (by rw [← HL6.out]; exact hlc) hcm
        rw [← HL6.out] at this
        exact this
      have HGV3 := Lib.hid hgv3
      have HB3 := Lib.hid hb3
      have f4 := HX2.out.fr 4
      have y4 := HX2.out.c4
      simp only at y4
      clear hb hb3 hgr hgr3 hgv3 HC z4 HX1
      go_upto_region 7 with fail
      rw [← hW3]
      clear hW3 f4 y4 HX2
      have z0 := HX3.out.c0
      have z1 := HX3.out.c1
      have z2 := HX3.out.c2
      have z3 := HX3.out.c3
      have z4 := HX3.out.c4
      have z5 := HX3.out.c5
      simp only at z0 z1 z2 z3 z4 z5
      have HCP3 := Lib.hid (HCP.out.below HB3.out)
      have hbd : (vs.length + 1) * 72 ≤ 140737488351232 := by have := HVL.out; have := HIM.out; omega
      go_wp2_with (at_builtin; refine wpl_append_ev rfl (.tmp 20) (.tmp 22) rfl w.heap.size _ vs rfl HCP3.out.1 ⟨k2, num2, S2, op2, A', len2, c', p2⟩ rfl hbd ?hb0 ?_)
      case hb0 => exact Nat.le_trans HB.out.size HB3.out.size
      intro v5 w5 hrow5 hgr5 hat5
      have hba : Below W3.heap.size W3 (W3.alloc (.cells #[.int .i64 k2, .int .i64 num2, .string S2, .int .i64 op2, .slice A' len2 c', .int .i64 p2] 24)) := (Below.refl _ W3).alloc (Nat.le_refl _) _
      have hcp4 := HCP3.out.below hba
      have hnx : NXo (W3.alloc (.cells #[.int .i64 k2, .int .i64 num2, .string S2, .int .i64 op2, .slice A' len2 c', .int .i64 p2] 24)) w.heap.size (Value.ownBlock _) z ⟨k2, num2, S2, op2, A', len2, c', p2⟩ :=
        NXo.of (r := Value.ownBlock u3) ((HGV3.out.below hba (Nat.le_refl _)).mono (Nat.le_refl _) hba.size) (fun k hk => by
          have := (HCP.out.lt k hk).2
          have h2 := HS1.out
          have h3 := HG5.out
          omega) HB1.out.size
      have HCP5 := Lib.hid (Cps.snoc hcp4 (by rw [HVL.out]; exact HZ.out) hnx hrow5 hgr5 (by
        rcases hat5 with h | h
        · exact .inl h
        · exact .inr (by rw [h]; simp)))
      have HB5 : Hid (Below w.heap.size w w5) := by
        have h1 := HB.out.trans (HB3.out.mono HB.out.size)
        have h2 := h1.trans (hba.mono h1.size)
        refine h2.grown hgr5 h2.size (fun k hk => (HCP.out.lt k hk).1)
      clear hba hcp4 hnx hrow5 hgr5 hat5 z0 z1 z2 z3 z4 z5 hbd
      go_wp2_with fail
      go_roundw
      case rel => exact ⟨i + 1, vs ++ [⟨k2, num2, S2, op2, A', len2, c', p2⟩], by have := HIM.out; omega, by go_num, by rw [List.length_append, HVL.out]; rfl, HCP5, HB5⟩
      case measure => have := HIM.out; simp [intOf]; omega
    · have him' : ¬ (i : Int) < n := by omega
      have hin : i = n := by omega
      obtain ⟨A', c', hv, h1, h2, h3⟩ := HCP.out.row (by rw [hvl, HLN.out, hin])
      rw [HLN.out] at hv h1
      go_wp2_with fail
      go_ret
      exact ⟨A', c', by first | rfl | (rw [hv]; rfl), h1, h2, h3, HB.out⟩

theorem copied_all : ∀ (m : Nat) (l : List GX), SizeOf.sizeOf l ≤ m → ECp l
  | 0, l, hm => by
    cases l <;> simp at hm
  | m + 1, l, hm => copied_step l (fun i z hz => copied_all m z.subs (by
      have h1 := List.sizeOf_lt_of_mem (List.mem_of_getElem? hz)
      obtain ⟨k, n, s, o, l', p⟩ := z
      simp only [GX.mk.sizeOf_spec] at h1
      show SizeOf.sizeOf l' ≤ m
      omega))

end Go.Proofs.YthgodhojhajahaaGreatDoor
