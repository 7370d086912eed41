/-
  The document's writer of expressions: an expression.
-/
import Derived.Test.YtlfmciocoijnbaaGreatDoorEqE
import Derived.Test.YtlfmciocoijnbaaGreatDoorEqD
import Derived.StillTailTactics
namespace Go.Proofs.YtlfmciocoijnbaaGreatDoor
open Go.RowKit

set_option maxRecDepth 20000 in
theorem enumbers_obj (w : World) :
    Calls Tryz.prog 48 #[] w fun e w' => e = .returned (.slice (some ⟨w.heap.size + 6, 0, none⟩) 6 6) ∧ w' = sixW w (fun o => .int .i64 o.2) 3 93 := by
  go_enter Tryz.func48, Tryz.ntmps48
  go_wp2_with fail
  go_ret
  exact ⟨rfl, rfl⟩

/-- A row of operators' numbers. -/
def NumB (w : World) (g k : Nat) : Prop := w.heap[g]? = some (.cells ((rowOps k).map (fun o : List UInt8 × Int => Value.int .i64 o.2)).toArray 3 (0, 0))

theorem NumB.cell {w : World} {g k i : Nat} {o : List UInt8 × Int} (h : NumB w g k) (hi : (rowOps k)[i]? = some o) : w.cell? ⟨g, i, none⟩ = some (.int .i64 o.2) := by
  rw [cell_of_row w g i _ _ _ h]
  simp [hi]
theorem NumB.wk {B b : Nat} {w w' : World} {g k : Nat} (h : NumB w g k) (hk : Wk B b w w') (hn : g ≠ b) : NumB w' g k := hk.keep _ _ _ _ h hn (by decide)

theorem itoa_len20 (n : Int) (h0 : -9223372036854775808 ≤ n) (h1 : n ≤ 9223372036854775807) : (⟨(Lib.itoa n).toArray⟩ : ByteArray).size ≤ 100 := by
  have := itoa_short n h0 h1
  have e : (⟨(Lib.itoa n).toArray⟩ : ByteArray).size = (Lib.itoa n).length := by simp [ByteArray.size]
  omega

/-- What a part leaves. -/
def PR2 (u : World) (b g1 : Nat) (v : EV) (w0 w' : World) (l t : List UInt8) : Prop := ∃ l', PAt u b g1 v w0 w' l' ∧ Pg l t l'

theorem PAt.then {u w0 w w' : World} {b g1 : Nat} {v : EV} {l t : List UInt8} (h : PAt u b g1 v w0 w l) (hn : g1 ≠ b) (hq : PQq u b w w' l t) : PR2 u b g1 v w0 w' l t := by
  obtain ⟨⟨l', h1, h2⟩, h3⟩ := hq
  exact ⟨l', h.go hn h3 h1 h2.le, h2⟩

theorem PR2.done {u w w0 w' : World} {b g1 : Nat} {v : EV} {l t : List UInt8} (h : PR2 u b g1 v w0 w' l t) (hk : Wk u.heap.size b w w0) : PQq u b w w' l t := by
  obtain ⟨l', h1, h2⟩ := h
  exact ⟨⟨l', h1.pb, h2⟩, hk.trans h1.wk⟩

set_option maxHeartbeats 3200000 in
set_option maxRecDepth 20000 in
theorem pexpr_leaf (u : World) (b : Nat) (x : GX) (hr : x.rng) (hk : x.kind ≠ 4 ∧ x.kind ≠ 5) : GExp u b x := by
  intro w v l e hx hg hbl hpb hl
  obtain ⟨a1, a2, a3, a4, a5, a6, a7, a8, a9⟩ := hg.out
  obtain ⟨g1, hg1⟩ : ∃ g1, g1 = w.heap.size := ⟨_, rfl⟩
  obtain ⟨W0, hW0⟩ : ∃ W0, W0 = w.alloc (.cells #[.int .i64 v.kind, .int .i64 v.num, .string v.name, .int .i64 v.op, .slice v.A v.len v.cap, .int .i64 v.p] 26) := ⟨_, rfl⟩
  have HA : Hid (PAt u b g1 v w W0 l) := by rw [hW0, hg1]; exact PAt.new hbl hpb hl
  have HWA : Hid (Wk u.heap.size b w W0) := HA.out.wk
  have hn1 : g1 ≠ b := by have := hpb.lt; omega
  have HN1 := Lib.hid hn1
  have HRG : Hid (-9223372036854775808 ≤ v.num ∧ v.num ≤ 9223372036854775807) := by
    obtain ⟨k, n, s, o, ls, p⟩ := x
    rw [GX.rng] at hr
    show _ ∧ _
    rw [a2]
    exact hr.1
  have hL := HA.out.pb.c0
  obtain ⟨ao, acap, p0⟩ := hL
  have z0 := HA.out.xp.c0
  have z1 := HA.out.xp.c1
  have z2 := HA.out.xp.c2
  by_cases hfull : 16384 < l.length
  · have hfull' : (16384 : Int) < l.length := by omega
    have hvv : v.val = .agg #[.int .i64 v.kind, .int .i64 v.num, .string v.name, .int .i64 v.op, .slice v.A v.len v.cap, .int .i64 v.p] := rfl
    rw [hvv]
    have HFU := Lib.hid hfull
    have HLL := Lib.hid hl
    clear hx hg hbl hpb hl hr hk a1 a2 a3 a4 a5 a6 a7 a8 a9 hvv hn1 hfull z0 z1 z2
    go_enter Tryz.func27, Tryz.ntmps27
    go_upto_region 1 with fail
    rw [← hW0, ← hg1]
    clear hW0 hg1
    go_wp2_with fail
    refine bodyPost_ret (results_none rfl _ _ _) rfl ?_
    exact ⟨rfl, ⟨l, HA.out.pb, Pg.full HFU.out HLL.out⟩, HWA.out⟩
  have hfull' : ¬ (16384 : Int) < l.length := by omega
  obtain ⟨kk, nn, ss, oo, ls, pp⟩ := x
  rw [ex_mk] at hx
  replace a1 : v.kind = kk := a1
  replace a2 : v.num = nn := a2
  replace a3 : v.name.data.toList = ss := a3
  have hsl : v.name.data.toList.length = v.name.size := rfl
  have hLL := hl
  obtain ⟨k, num, S, op, A, len, cap, p⟩ := v
  simp only [EV.val]
  simp only at a1 a2 a3 hsl hW0 HRG z0 z1 z2
  rcases node_some hx with ⟨rfl, h1, h2, _, _, _, rfl⟩ | ⟨rfl, h1, h2, _, _, rfl⟩ | ⟨rfl, h1, h2, _, _, rfl⟩ | ⟨y, rfl, _⟩ | ⟨y, y', rfl, _⟩
  · have HT := Lib.hid (fun W => rtext_any num W HRG.out.1 HRG.out.2)
    have hT20 := itoa_len20 num HRG.out.1 HRG.out.2
    obtain ⟨T, hT⟩ : ∃ T : ByteArray, (⟨(Lib.itoa num).toArray⟩ : ByteArray) = T := ⟨_, rfl⟩
    have HTT : Hid (T.data.toList = (Ex.int nn 0).tx) := by show _ = _; rw [← hT, a2]; rfl
    rw [hT] at HT hT20
    have HT2 := Lib.hid hT20
    subst a1
    clear hx hg hbl hpb hl hr hk a2 a3 a4 a5 a6 a7 a8 a9 hn1 hfull hLL hsl h1 h2 hT hT20
    go_enter Tryz.func27, Tryz.ntmps27
    go_upto_region 1 with fail
    rw [← hW0, ← hg1]
    clear hW0 hg1
    go_wp2_with fail
    refine (HT.out W0).mono ?_
    rintro r w1 ⟨rfl, hb⟩
    have HA1 := Lib.hid (HA.out.below HN1.out hb)
    have HP := Lib.hid (pput_any w1 u.heap.size b l T HA1.out.pb HA1.out.le HT2.out HA1.out.bl.size)
    clear hb HT HA
    go_wp2_with fail
    refine HP.out.mono ?_
    rintro r w2 ⟨rfl, ⟨l2, hp2, hg2⟩, hk2⟩
    go_wp2_with fail
    go_end0
    rw [HTT.out] at hg2
    exact ⟨rfl, ⟨l2, hp2, hg2⟩, HA1.out.wk.trans hk2⟩
  · have hsz : S.size ≤ 100 := by have := nm_small (S := S) (by rw [a3]; exact h2); omega
    have HP := Lib.hid (pput_any W0 u.heap.size b l S HA.out.pb HA.out.le hsz HA.out.bl.size)
    have HTT : Hid (S.data.toList = (Ex.var ss 0).tx) := a3
    subst a1
    clear hx hg hbl hpb hl hr hk a2 a3 a4 a5 a6 a7 a8 a9 hn1 hfull hLL hsl h1 h2 hsz
    go_enter Tryz.func27, Tryz.ntmps27
    go_upto_region 1 with fail
    rw [← hW0, ← hg1]
    clear hW0 hg1
    go_wp2_with fail
    refine HP.out.mono ?_
    rintro r w2 ⟨rfl, ⟨l2, hp2, hg2⟩, hk2⟩
    go_wp2_with fail
    go_end0
    rw [HTT.out] at hg2
    exact ⟨rfl, ⟨l2, hp2, hg2⟩, HWA.out.trans hk2⟩
  · have hsz : S.size ≤ 24 := by have := nm_small (S := S) (by rw [a3]; exact h2); omega
    have e4 : ¬ 9223372036854775807 < 3 + S.size := by omega
    have e5 : ¬ 9223372036854775807 < 3 + S.size + 1 := by omega
    obtain ⟨N, hN⟩ : ∃ N : ByteArray, N = ⟨#[105, 110, 40]⟩ ++ S ++ ⟨#[41]⟩ := ⟨_, rfl⟩
    have hNs : N.size ≤ 100 := by rw [hN, ByteArray.size_append, ByteArray.size_append]; show 3 + S.size + 1 ≤ 100; omega
    have HP := Lib.hid (pput_any W0 u.heap.size b l N HA.out.pb HA.out.le hNs HA.out.bl.size)
    have HTT : Hid (N.data.toList = (Ex.inn ss 0).tx) := by show _ = _; rw [hN, ← a3]; simp [Ex.tx]
    have HNN := Lib.hid hN.symm
    subst a1
    clear hx hg hbl hpb hl hr hk a2 a3 a4 a5 a6 a7 a8 a9 hn1 hfull hLL hsl h1 h2 hsz hN hNs
    go_enter Tryz.func27, Tryz.ntmps27
    go_upto_region 1 with fail
    rw [← hW0, ← hg1]
    clear hW0 hg1
    go_wp2_with fail
    rw [show ({ data := #[105, 110, 40] } : ByteArray) ++ S ++ { data := #[41] } = N from HNN.out]
    refine HP.out.mono ?_
    rintro r w2 ⟨rfl, ⟨l2, hp2, hg2⟩, hk2⟩
    go_wp2_with fail
    go_end0
    rw [HTT.out] at hg2
    exact ⟨rfl, ⟨l2, hp2, hg2⟩, HWA.out.trans hk2⟩
  · exact absurd rfl hk.1
  · exact absurd rfl hk.2

end Go.Proofs.YtlfmciocoijnbaaGreatDoor
