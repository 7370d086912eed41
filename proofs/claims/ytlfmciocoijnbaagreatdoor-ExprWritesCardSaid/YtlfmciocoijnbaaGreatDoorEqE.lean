/-
  The document's writer of expressions: parts, expressions.
-/
import Derived.Test.YtlfmciocoijnbaaGreatDoorEqB
import Derived.Test.YtlfmciocoijnbaaGreatDoorEqC
import Derived.Test.YtlfmciocoijnbaaGreatDoorCA
import Derived.Deep.RegionHeld3
namespace Go.Proofs.YtlfmciocoijnbaaGreatDoor
open Go.RowKit

/-- The page within a call whose parameter lies in a box. -/
structure PAt (u : World) (b g1 : Nat) (v : EV) (w0 w : World) (l : List UInt8) : Prop where
  bl : Below u.heap.size u w
  pb : PB w u.heap.size b l
  xp : XpB w g1 v
  wk : Wk u.heap.size b w0 w
  le : l.length ≤ 16500

section
variable {u w0 w w' : World} {b g1 : Nat} {v : EV} {l l' : List UInt8}
theorem PAt.go (h : PAt u b g1 v w0 w l) (hn : g1 ≠ b) (hk : Wk u.heap.size b w w') (hw : PB w' u.heap.size b l') (hl : l'.length ≤ 16500) : PAt u b g1 v w0 w' l' :=
  ⟨h.bl.trans hk.below, hw, h.xp.wk hk hn, h.wk.trans hk, hl⟩
theorem PAt.below (h : PAt u b g1 v w0 w l) (hn : g1 ≠ b) (hb : Below w.heap.size w w') : PAt u b g1 v w0 w' l :=
  h.go hn (Wk.of h.bl.size hb) (h.pb.below hb) h.le
theorem PAt.drew (h : PAt u b g1 v w0 w l) (hn : g1 ≠ b) : PAt u b g1 v w0 w.drew l := h.below hn (Below.refl _ w).drew
theorem PAt.new (hb : Below u.heap.size u w) (hw : PB w u.heap.size b l) (hl : l.length ≤ 16500) : PAt u b w.heap.size v w (w.alloc (.cells #[.int .i64 v.kind, .int .i64 v.num, .string v.name, .int .i64 v.op, .slice v.A v.len v.cap, .int .i64 v.p] 26)) l :=
  ⟨hb.alloc hb.size _, hw.alloc _, XpB.new w v, Wk.alloc hb.size _, hl⟩
end

/-- What a call of the page leaves. -/
def PQq (u : World) (b : Nat) (w w' : World) (l t : List UInt8) : Prop := (∃ l', PB w' u.heap.size b l' ∧ Pg l t l') ∧ Wk u.heap.size b w w'

def GExp (u : World) (b : Nat) (x : GX) : Prop := ∀ (w : World) (v : EV) (l : List UInt8) (e : Ex), x.ex = some e → GV u 0 u.heap.size x v → Below u.heap.size u w → PB w u.heap.size b l → l.length ≤ 16500 →
  Calls Tryz.prog 27 #[.pointer (some ⟨b, 0, none⟩), v.val] w fun r w' => r = .returned (.tuple #[]) ∧ PQq u b w w' l e.tx

def GPar (u : World) (b : Nat) (x : GX) : Prop := ∀ (w : World) (v : EV) (c : Bool) (l : List UInt8) (e : Ex), x.ex = some e → GV u 0 u.heap.size x v → Below u.heap.size u w → PB w u.heap.size b l → l.length ≤ 16500 →
  Calls Tryz.prog 47 #[.pointer (some ⟨b, 0, none⟩), v.val, .bool c] w fun r w' => r = .returned (.tuple #[]) ∧ PQq u b w w' l (par c e.tx)

theorem PQq.trans {u : World} {b : Nat} {w w' w'' : World} {l l' t t' : List UInt8} (h : Pg l t l') (hk : Wk u.heap.size b w w') (h' : PQq u b w' w'' l' t') : PQq u b w w'' l (t ++ t') := by
  obtain ⟨⟨l2, h1, h2⟩, h3⟩ := h'
  exact ⟨⟨l2, h1, h.trans h2⟩, hk.trans h3⟩

set_option maxHeartbeats 1600000 in
set_option maxRecDepth 20000 in
theorem ppart_any (u : World) (b : Nat) (x : GX) (h : GExp u b x) : GPar u b x := by
  intro w v c l e hx hg hbl hpb hl
  have HE := Lib.hid (fun (W : World) (l : List UInt8) (bl : Below u.heap.size u W) (pb : PB W u.heap.size b l) (hl : l.length ≤ 16500) => h W v l e hx hg bl pb hl)
  obtain ⟨g1, hg1⟩ : ∃ g1, g1 = w.heap.size := ⟨_, rfl⟩
  obtain ⟨W0, hW0⟩ : ∃ W0, W0 = w.alloc (.cells #[.int .i64 v.kind, .int .i64 v.num, .string v.name, .int .i64 v.op, .slice v.A v.len v.cap, .int .i64 v.p] 26) := ⟨_, rfl⟩
  have HA : Hid (PAt u b g1 v w W0 l) := by rw [hW0, hg1]; exact PAt.new hbl hpb hl
  have HWA : Hid (Wk u.heap.size b w W0) := HA.out.wk
  have hn1 : g1 ≠ b := by have := hpb.lt; omega
  have HN1 := Lib.hid hn1
  have hvv : v.val = .agg #[.int .i64 v.kind, .int .i64 v.num, .string v.name, .int .i64 v.op, .slice v.A v.len v.cap, .int .i64 v.p] := rfl
  rw [hvv] at HE ⊢
  clear h hx hg hbl hpb hl hn1 hvv
  cases c
  · have HC := Lib.hid (HE.out W0 l HA.out.bl HA.out.pb HA.out.le)
    have z0 := HA.out.xp.c0
    have z1 := HA.out.xp.c1
    have z2 := HA.out.xp.c2
    have z3 := HA.out.xp.c3
    have z4 := HA.out.xp.c4
    have z5 := HA.out.xp.c5
    go_enter Tryz.func47, Tryz.ntmps47
    go_upto_region 1 with fail
    rw [← hW0, ← hg1]
    clear hW0 hg1
    go_wp2_with fail
    refine HC.out.mono ?_
    rintro r w1 ⟨rfl, hq⟩
    go_wp2_with fail
    go_end0
    exact ⟨rfl, ⟨hq.1, HWA.out.trans hq.2⟩⟩
  · have HP := Lib.hid (pput_any W0 u.heap.size b l ⟨#[40]⟩ HA.out.pb HA.out.le (by decide) HA.out.bl.size)
    go_enter Tryz.func47, Tryz.ntmps47
    go_upto_region 1 with fail
    rw [← hW0, ← hg1]
    clear hW0 hg1
    go_wp2_with fail
    refine HP.out.mono ?_
    rintro r w1 ⟨rfl, ⟨l1, hp1, hg1⟩, hk1⟩
    have HA1 := Lib.hid (HA.out.go HN1.out hk1 hp1 hg1.le)
    have HG1 := Lib.hid hg1
    have HC := Lib.hid (HE.out w1 l1 HA1.out.bl HA1.out.pb HA1.out.le)
    have z0 := HA1.out.xp.c0
    have z1 := HA1.out.xp.c1
    have z2 := HA1.out.xp.c2
    have z3 := HA1.out.xp.c3
    have z4 := HA1.out.xp.c4
    have z5 := HA1.out.xp.c5
    clear hp1 hg1 hk1 HP HA
    go_wp2_with fail
    refine HC.out.mono ?_
    rintro r w2 ⟨rfl, ⟨l2, hp2, hg2⟩, hk2⟩
    have HA2 := Lib.hid (HA1.out.go HN1.out hk2 hp2 hg2.le)
    have HG2 := Lib.hid hg2
    have HP := Lib.hid (pput_any w2 u.heap.size b l2 ⟨#[41]⟩ HA2.out.pb HA2.out.le (by decide) HA2.out.bl.size)
    clear hp2 hg2 hk2 HC HA1 z0 z1 z2 z3 z4 z5
    go_wp2_with fail
    refine HP.out.mono ?_
    rintro r w3 ⟨rfl, ⟨l3, hp3, hg3⟩, hk3⟩
    go_wp2_with fail
    go_end0
    refine ⟨rfl, ⟨l3, hp3, ?_⟩, HA2.out.wk.trans hk3⟩
    have := (HG1.out.trans HG2.out).trans hg3
    rw [par_tt]
    exact this

theorem lvl_lev {z : GX} {e : Ex} (h : z.ex = some e) : lvl z = e.lev := by
  obtain ⟨k, n, s, o, l, p⟩ := z
  rw [ex_mk] at h
  unfold lvl
  show (if k = 5 then rowOf o else 6) = e.lev
  rcases node_some h with ⟨rfl, _, _, _, _, _, rfl⟩ | ⟨rfl, _, _, _, _, rfl⟩ | ⟨rfl, _, _, _, _, rfl⟩ | ⟨x, rfl, _, _, _, _, rfl⟩ | ⟨x, y, rfl, _, _, a, _, rfl⟩ <;> rfl

theorem kind_both {z : GX} {e : Ex} (h : z.ex = some e) : (z.kind == 5) = e.isBoth := by
  obtain ⟨k, n, s, o, l, p⟩ := z
  rw [ex_mk] at h
  show (k == 5) = e.isBoth
  rcases node_some h with ⟨rfl, _, _, _, _, _, rfl⟩ | ⟨rfl, _, _, _, _, rfl⟩ | ⟨rfl, _, _, _, _, rfl⟩ | ⟨x, rfl, _, _, _, _, rfl⟩ | ⟨x, y, rfl, _, _, a, _, rfl⟩ <;> rfl

theorem ops_nodup (k : Nat) : ((rowOps k).map (fun o => o.2)).Nodup := by
  match k with
  | 0 => decide
  | 1 => decide
  | 2 => decide
  | 3 => decide
  | 4 => decide
  | 5 => decide
  | k + 6 => simp [rowOps]

theorem ops_inj {k i j : Nat} {a c : List UInt8 × Int} (ha : (rowOps k)[i]? = some a) (hc : (rowOps k)[j]? = some c) (h : a.2 = c.2) : i = j := by
  refine (List.getElem?_inj (l := (rowOps k).map (fun o => o.2)) ?_ (ops_nodup k)).1 ?_
  · rw [List.length_map]; exact (List.getElem?_eq_some_iff.1 ha).1
  · rw [List.getElem?_map, List.getElem?_map, ha, hc]; simp [h]

end Go.Proofs.YtlfmciocoijnbaaGreatDoor
