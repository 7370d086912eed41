/-
  The document's names.
-/
import Derived.Test.YthgodhojhajahaaGreatDoorVaG
namespace Go.Proofs.YthgodhojhajahaaGreatDoor
open Go.RowKit

theorem putP_len (s : List UInt8) : ∀ L, (putP s L).length ≤ L.length + 1
  | [] => by simp [putP]
  | m :: r => by
    unfold putP
    split
    · rw [List.length_cons, List.length_cons]
      have := putP_len s r
      omega
    · split
      · omega
      · rw [List.length_cons]; omega

theorem nmP_own (kd : Int) (x : GX) (L : List (List UInt8)) : nmP kd x L = nmsP kd x.subs (if x.kind = kd then putP x.name L else L) := by
  obtain ⟨k, n, s, o, l, p⟩ := x
  exact nmP_mk kd k n s o l p L
theorem colP_own (kd : Int) (x : GX) : colP kd x = ownP kd x.kind x.name ++ colsP kd x.subs := by
  obtain ⟨k, n, s, o, l, p⟩ := x
  exact colP_mk kd k n s o l p

mutual
theorem nmP_len (kd : Int) : ∀ (x : GX) (L : List (List UInt8)), (nmP kd x L).length ≤ L.length + (colP kd x).length
  | .mk k n s o l p, L => by
    rw [nmP_mk, colP_mk, List.length_append]
    have h := nmsP_len kd l (if k = kd then putP s L else L)
    by_cases c : k = kd
    · rw [if_pos c] at h ⊢
      rw [if_pos c, List.length_singleton]
      have := putP_len s L
      omega
    · rw [if_neg c] at h ⊢
      rw [if_neg c, List.length_nil]
      omega
theorem nmsP_len (kd : Int) : ∀ (l : List GX) (L : List (List UInt8)), (nmsP kd l L).length ≤ L.length + (colsP kd l).length
  | [], L => by rw [nmsP_nil, colsP_nil]; simp
  | x :: l, L => by
    rw [nmsP_cons, colsP_cons, List.length_append]
    have h1 := nmsP_len kd l (nmP kd x L)
    have h2 := nmP_len kd x L
    omega
end

/-- What the document's names answers at a tree. -/
def RNm (x : GX) : Prop := ∀ (w : World) (B : Nat) (kd : Int) (v : EV) (A : Option Addr) (n c : Nat) (L : List (List UInt8)), GV w 0 w.heap.size x v → B ≤ w.heap.size → StRow w B (.slice A n c) (mkS L) → L.length + (colP kd x).length ≤ 1048576 →
  Calls Tryz.prog 25 #[v.val, .int .i64 kd, .slice A n c] w fun e w' => ∃ A' n' c', e = .returned (.slice A' n' c') ∧ StRow w' B (.slice A' n' c') (mkS (nmP kd x L)) ∧ Below w.heap.size w w'

theorem StRow.len {w : World} {B : Nat} {A : Option Addr} {n c : Nat} {L : List (List UInt8)} (h : StRow w B (.slice A n c) (mkS L)) : L.length = n := by
  obtain ⟨_, _, e, _⟩ := h.str
  injection e with _ e2
  rw [e2, mkS_len]

set_option maxHeartbeats 1600000 in
set_option maxRecDepth 20000 in
theorem rnames_step (x : GX) (ih : ∀ (i : Nat) (z : GX), x.subs[i]? = some z → RNm z) : RNm x := by
  intro w B kd v A n c L hx hB hl hn
  obtain ⟨W0, g1, hW0, hg1, HX, HB0⟩ := box_new w v
  have hlen := hx.leneq
  have hcap := hx.lecap
  have hcm : v.cap ≤ maxLen := hx.out.2.2.2.2.2.2.2.1
  have HPART := Lib.hid (fun (i : Nat) (a : GX) (ha : x.subs[i]? = some a) => hx.part ha)
  have HIH := Lib.hid ih
  have hk : v.kind = x.kind ∧ v.name.data.toList = x.name := by
    obtain ⟨a1, a2, a3, _⟩ := hx.out
    exact ⟨a1, a3⟩
  have hT := nmP_own kd x L
  have hCO := colP_own kd x
  rw [← hk.1, ← hk.2] at hT hCO
  obtain ⟨T, hTT⟩ : ∃ T, nmP kd x L = T := ⟨_, rfl⟩
  rw [hTT] at hT
  rw [hCO, List.length_append] at hn
  obtain ⟨sb, hsb⟩ : ∃ sb, x.subs = sb := ⟨_, rfl⟩
  rw [hsb] at hlen HPART HIH hT hn
  have HT := Lib.hid hT
  have HTT := Lib.hid hTT
  have HN := Lib.hid hn
  have HLN := Lib.hid hlen
  have HL := Lib.hid (hl.below HB0.out)
  have HB := Lib.hid (Nat.le_trans hB HB0.out.size)
  have HCM : Hid (v.len ≤ 9223372036854775807) := by unfold maxLen at hcm; exact Nat.le_trans hcap (by omega)
  have HPU := Lib.hid (fun (h : n ≤ 1048576) => rput_any W0 B A n c L v.name HL.out HL.out.len h HB.out)
  clear hx hB hl hn hlen hcap hcm ih hk hT hCO hTT hsb
  obtain ⟨k, num, S, op, XA, len, cap, p⟩ := v
  simp only [EV.val] at hW0 HPART HT HN HLN HCM HPU ⊢
  have z0 := HX.out.c0
  have z2 := HX.out.c2
  simp only at z0 z2
  go_enter Tryz.func25, Tryz.ntmps25
  go_upto_region 1 with fail
  rw [← hW0, ← hg1]
  clear hW0 hg1
  obtain ⟨d, hd⟩ : ∃ d, (k == kd) = d := ⟨_, rfl⟩
  go_upto_if 11 with fail
  go_cut [2] from 12 to 15 (fun s2 wr => ∃ (A' : Option Addr) (n' c' : Nat), s2 = .slice A' n' c' ∧ Hid (StRow wr B (.slice A' n' c') (mkS (if k = kd then putP S.data.toList L else L))) ∧ Hid (Below W0.heap.size W0 wr))
  case first =>
    cases d
    · have hkk : ¬ k = kd := by simpa using hd
      have HR : Hid (StRow W0 B (.slice A n c) (mkS (if k = kd then putP S.data.toList L else L))) := by rw [if_neg hkk]; exact HL.out
      clear hkk
      go_wp2_with fail
      go_meet
      exact ⟨_, _, _, rfl, HR, Below.refl _ _⟩
    · have hkk : k = kd := by simpa using hd
      subst hkk
      have HC := Lib.hid (HPU.out (by have := HN.out; have := HL.out.len; omega))
      have HII : Hid (putP S.data.toList L = (if k = k then putP S.data.toList L else L)) := (if_pos rfl).symm
      go_wp2_with fail
      refine HC.out.mono ?_
      rintro e w' ⟨v', rfl, q1, q2⟩
      obtain ⟨A', c', hv', _⟩ := q1.str
      obtain ⟨n', hn'⟩ : ∃ n', (mkS (putP S.data.toList L)).length = n' := ⟨_, rfl⟩
      rw [hn'] at hv'
      subst hv'
      rw [HII.out] at q1
      have HQ1 := Lib.hid q1
      have HQ2 := Lib.hid q2
      clear q1 q2 hn' HII
      go_wp2_with fail
      go_meet
      exact ⟨_, _, _, rfl, HQ1, HQ2⟩
  case rest =>
  obtain ⟨A', n', c', rfl, HR, HBW⟩ := hcut
  obtain ⟨L1, hL1⟩ : ∃ L1, (if k = kd then putP S.data.toList L else L) = L1 := ⟨_, rfl⟩
  have hN1 : L1.length + (colsP kd sb).length ≤ 1048576 := by
    have h := HN.out
    rw [← hL1]
    unfold ownP at h
    by_cases c : k = kd
    · rw [if_pos c, List.length_singleton] at h
      rw [if_pos c]
      have := putP_len S.data.toList L
      omega
    · rw [if_neg c, List.length_nil] at h
      rw [if_neg c]
      omega
  rw [hL1] at HR HT
  have HN1 := Lib.hid hN1
  clear hL1 hN1 z0 z2 hd HPU HL HN
  go_wp2_with fail
  go_loopw [2, 7] (fun lv iv wr => ∃ (i : Nat) (A' : Option Addr) (n' c' : Nat) (L' : List (List UInt8)), i ≤ len ∧ lv = .slice A' n' c' ∧ iv = .int .i64 (i : Int) ∧ Hid (StRow wr B (.slice A' n' c') (mkS L')) ∧ Hid (T = nmsP kd (sb.drop i) L' ∧ L'.length + (colsP kd (sb.drop i)).length ≤ 1048576) ∧ Hid (Below W0.heap.size W0 wr)) (fun _ iv _ => len - (intOf iv).toNat)
  case atStart => exact ⟨0, _, _, _, L1, Nat.zero_le _, rfl, rfl, HR, by rw [List.drop_zero]; exact ⟨HT.out, HN1.out⟩, HBW⟩
  case round =>
    obtain ⟨i, A', n', c', L', hi, rfl, rfl, HRW, HTW, HBR⟩ := hrel
    have z4 := (HX.out.below HBR.out).c4
    simp only at z4
    by_cases him : i < len
    · have HIM := Lib.hid him
      have him' : (i : Int) < len := by omega
      obtain ⟨z, hz⟩ : ∃ z, sb[i]? = some z := ⟨_, List.getElem?_eq_getElem (by rw [← HLN.out]; exact him)⟩
      obtain ⟨go, o, v', rfl, hgo, hev, hgv⟩ := HPART.out i z hz
      have hbw := HB0.out.trans (HBR.out.mono HB0.out.size)
      obtain ⟨x0, x1, x2, x3, x4, x5⟩ := hev.same (hbw.block go hgo)
      have hT := HTW.out
      rw [drop_at hz, nmsP_cons, colsP_cons, List.length_append] at hT
      have HC := Lib.hid (HIH.out i z hz wr B kd v' A' n' c' L' ((GV.below hgv hbw (Nat.le_refl _)).mono (Nat.le_refl _) hbw.size) (Nat.le_trans HB.out HBR.out.size) HRW.out (by omega))
      have HT2 : Hid (T = nmsP kd (sb.drop (i + 1)) (nmP kd z L') ∧ (nmP kd z L').length + (colsP kd (sb.drop (i + 1))).length ≤ 1048576) := ⟨hT.1, by have := nmP_len kd z L'; omega⟩
      obtain ⟨k2, num2, S2, op2, A2, len2, cap2, p2⟩ := v'
      simp only [EV.val] at HC
      simp only at x0 x1 x2 x3 x4 x5
      clear hz hev hgv hgo hbw hT
      go_wp2_with fail
      refine HC.out.mono ?_
      rintro e w2 ⟨A3, n3, c3, rfl, q1, q2⟩
      have HQ1 := Lib.hid q1
      have HQ2 := Lib.hid (HBR.out.trans (q2.mono HBR.out.size))
      clear q1 q2 x0 x1 x2 x3 x4 x5 z4
      go_wp2_with fail
      go_roundw
      case rel => exact ⟨i + 1, _, _, _, _, by have := HIM.out; omega, rfl, by have h1 := HIM.out; have h2 := HCM.out; rw [Go.IntWalk.wrap64_in _ ⟨by omega, by omega⟩]; rfl, HQ1, HT2, HQ2⟩
      case measure => have h1 := HIM.out; have h2 := HCM.out; rw [Go.IntWalk.wrap64_in _ ⟨by omega, by omega⟩]; simp [intOf]; omega
    · have him' : ¬ (i : Int) < len := by omega
      have hT := HTW.out.1
      rw [drop_none (by rw [← HLN.out]; omega), nmsP_nil] at hT
      have HF : Hid (StRow wr B (.slice A' n' c') (mkS T)) := by rw [hT]; exact HRW.out
      have HFB := Lib.hid (HB0.out.trans (HBR.out.mono HB0.out.size))
      clear hT
      go_wp2_with fail
      go_ret
      exact ⟨_, _, _, rfl, by rw [HTT.out]; exact HF.out, HFB.out⟩

theorem rnames_all : ∀ (m : Nat) (x : GX), SizeOf.sizeOf x ≤ m → RNm x
  | 0, x, hm => by
    obtain ⟨k, n, s, o, l, p⟩ := x
    simp only [GX.mk.sizeOf_spec] at hm
    omega
  | m + 1, x, hm => rnames_step x (fun i z hz => rnames_all m z (by have := sub_lt hz; omega))

theorem rnames_any (x : GX) : RNm x := rnames_all _ x (Nat.le_refl _)

set_option maxHeartbeats 1600000 in
set_option maxRecDepth 20000 in
theorem rNames_any (x : GX) (w : World) (v : EV) (hx : GV w 0 w.heap.size x v) (hn2 : (colP 2 x).length ≤ 1048576) (hn3 : (colP 3 x).length ≤ 1048576) :
    Calls Tryz.prog 16 #[v.val] w fun e w' => ∃ A2 n2 c2 A3 n3 c3, e = .returned (.tuple #[.slice A2 n2 c2, .slice A3 n3 c3]) ∧ StRow w' w.heap.size (.slice A2 n2 c2) (mkS (nmsOf 2 x)) ∧ StRow w' w.heap.size (.slice A3 n3 c3) (mkS (nmsOf 3 x)) ∧ Below w.heap.size w w' := by
  obtain ⟨W0, g1, hW0, hg1, HX, HB0⟩ := box_new w v
  have hG := (GV.below hx HB0.out (Nat.le_refl _)).mono (Nat.le_refl 0) HB0.out.size
  have HG := Lib.hid (fun (W : World) (hb : Below W0.heap.size W0 W) => (GV.below hG hb (Nat.le_refl _)).mono (Nat.le_refl 0) hb.size)
  have HNN := Lib.hid (And.intro hn2 hn3)
  clear hx hG hn2 hn3
  obtain ⟨k, num, S, op, A, len, cap, p⟩ := v
  simp only [EV.val] at hW0 ⊢
  have HSK : Hid (∀ W, Hid (Below W0.heap.size W0 W) → W.cell? ⟨g1, 0, none⟩ = some (.int .i64 k) ∧ W.cell? ⟨g1, 1, none⟩ = some (.int .i64 num) ∧ W.cell? ⟨g1, 2, none⟩ = some (.string S) ∧ W.cell? ⟨g1, 3, none⟩ = some (.int .i64 op) ∧ W.cell? ⟨g1, 4, none⟩ = some (.slice A len cap) ∧ W.cell? ⟨g1, 5, none⟩ = some (.int .i64 p)) := fun W hb => by
    have h := HX.out.below hb.out
    exact ⟨h.c0, h.c1, h.c2, h.c3, h.c4, h.c5⟩
  have HL : Hid (∀ W kd, Hid (Below W0.heap.size W0 W) → (kd = 2 ∨ kd = 3) → Calls Tryz.prog 25 #[.agg #[.int .i64 k, .int .i64 num, .string S, .int .i64 op, .slice A len cap, .int .i64 p], .int .i64 kd, .slice none 0 0] W fun e w' => ∃ A' n' c', e = .returned (.slice A' n' c') ∧ (w'.cell? ⟨g1, 0, none⟩ = some (.int .i64 k) ∧ w'.cell? ⟨g1, 1, none⟩ = some (.int .i64 num) ∧ w'.cell? ⟨g1, 2, none⟩ = some (.string S) ∧ w'.cell? ⟨g1, 3, none⟩ = some (.int .i64 op) ∧ w'.cell? ⟨g1, 4, none⟩ = some (.slice A len cap) ∧ w'.cell? ⟨g1, 5, none⟩ = some (.int .i64 p)) ∧ Hid (StRow w' w.heap.size (.slice A' n' c') (mkS (nmsOf kd x))) ∧ Hid (Below W.heap.size W w') ∧ Hid (Below W0.heap.size W0 w')) := fun W kd hb hk => by
    have h := rnames_any x W w.heap.size kd _ none 0 0 [] (HG.out W hb.out) (Nat.le_trans HB0.out.size hb.out.size) (World.ownsRow_nil _ _ _ _) (by
      rw [List.length_nil]
      rcases hk with rfl | rfl
      · have := HNN.out.1; omega
      · have := HNN.out.2; omega)
    refine h.mono ?_
    rintro e w' ⟨A', n', c', rfl, q1, q2⟩
    have h3 := hbel_trans hb q2
    exact ⟨A', n', c', rfl, HSK.out w' h3, q1, q2, h3⟩
  have HB20 := hbel_refl W0
  obtain ⟨z0, z1, z2, z3, z4, z5⟩ := HSK.out W0 HB20
  go_enter Tryz.func16, Tryz.ntmps16
  go_upto_region 1 with fail
  rw [← hW0, ← hg1]
  clear hW0 hg1
  go_region_held3 (fun W => W.cell? ⟨g1, 0, none⟩ = some (.int .i64 k) ∧ W.cell? ⟨g1, 1, none⟩ = some (.int .i64 num) ∧ W.cell? ⟨g1, 2, none⟩ = some (.string S) ∧ W.cell? ⟨g1, 3, none⟩ = some (.int .i64 op) ∧ W.cell? ⟨g1, 4, none⟩ = some (.slice A len cap) ∧ W.cell? ⟨g1, 5, none⟩ = some (.int .i64 p)) (go_keep) (first | (go_at_call 25; refine (HL.out _ _ (by with_reducible exact hbel_drew HB20) (by first | exact .inl rfl | exact .inr rfl)).mono ?_; rintro r wa ⟨Aa, na, ca, rfl, ⟨a0, a1, a2, a3, a4, a5⟩, HSTa, Hba, HBa⟩) | (go_at_call 25; refine (HL.out _ _ (by with_reducible exact HBa) (by first | exact .inl rfl | exact .inr rfl)).mono ?_; rintro r wb ⟨Ab, nb, cb, rfl, ⟨c0, c1, c2, c3, c4, c5⟩, HSTb, Hbb, HBb⟩))
  have HFA := Lib.hid (HSTa.out.below Hbb.out)
  have HFB := Lib.hid HSTb.out
  have HBF := Lib.hid (HB0.out.trans (HBb.out.mono HB0.out.size))
  clear a0 a1 a2 a3 a4 a5 c0 c1 c2 c3 c4 c5 z0 z1 z2 z3 z4 z5 HSTa HSTb Hba Hbb HBa HBb HL HB20
  go_wp2_with fail
  go_ret2
  exact ⟨_, _, _, _, _, _, rfl, HFA.out, HFB.out, HBF.out⟩

end Go.Proofs.YthgodhojhajahaaGreatDoor
