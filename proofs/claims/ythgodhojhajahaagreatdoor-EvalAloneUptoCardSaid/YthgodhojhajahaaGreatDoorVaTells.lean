/-
  The law EvalTells: its walk.
-/
import Derived.Test.YthgodhojhajahaaGreatDoorVaU
import Derived.Test.YthgodhojhajahaaGreatDoorVaD
import Derived.Test.YthgodhojhajahaaGreatDoorEvCp
import Derived.Test.YthgodhojhajahaaGreatDoorEwJ
import Derived.Test.YthgodhojhajahaaGreatDoorEpLaid
import Derived.Test.YthgodhojhajahaaGreatDoorVaX
namespace Go.Proofs.YthgodhojhajahaaGreatDoor
open Go.RowKit

theorem bel6_refl (u : World) : Hid (Below u.heap.size u u) := Below.refl _ u
theorem bel6_alloc {u W : World} (h : Hid (Below u.heap.size u W)) (o : Obj) : Hid (Below u.heap.size u (W.alloc o)) := h.out.alloc h.out.size o
theorem bel6_drew {u W : World} (h : Hid (Below u.heap.size u W)) : Hid (Below u.heap.size u W.drew) := h.out.drew
theorem bel6_trans {u V W : World} (h : Hid (Below u.heap.size u V)) (h2 : Hid (Below V.heap.size V W)) : Hid (Below u.heap.size u W) := h.out.trans (h2.out.mono h.out.size)
theorem bel6_set {u W : World} (h : Hid (Below u.heap.size u W)) {p : Addr} (hp : u.heap.size ≤ p.block) (v : Value) : Hid (Below u.heap.size u (W.setCell p v)) := h.out.setCell hp v

theorem full6_new (W : World) (e : TypeId) : Hid (FullAt (W.alloc (.cells #[] e)) e W.heap.size []) := heap_alloc_new W _
theorem full6_drew {W : World} {e : TypeId} {g : Nat} {l : List Value} (h : Hid (FullAt W e g l)) : Hid (FullAt W.drew e g l) := h
theorem full6_bel {V W : World} {e : TypeId} {g : Nat} {l : List Value} (h : Hid (FullAt V e g l)) (hb : Hid (Below V.heap.size V W)) : Hid (FullAt W e g l) := FullAt.below h.out hb.out

/-- A tree in a row of one. -/
theorem row_one (w : World) (x : GX) (v : EV) (h : GV w 0 w.heap.size x v) : GRow (w.alloc (.cells #[.int .i64 v.kind, .int .i64 v.num, .string v.name, .int .i64 v.op, .slice v.A v.len v.cap, .int .i64 v.p] 24)) 0 (w.alloc (.cells #[.int .i64 v.kind, .int .i64 v.num, .string v.name, .int .i64 v.op, .slice v.A v.len v.cap, .int .i64 v.p] 24)).heap.size [x] (some ⟨w.heap.size, 0, none⟩) 0 := by
  have hx := XpB.new w v
  have hb : Below w.heap.size w (w.alloc (.cells #[.int .i64 v.kind, .int .i64 v.num, .string v.name, .int .i64 v.op, .slice v.A v.len v.cap, .int .i64 v.p] 24)) := (Below.refl _ w).alloc (Nat.le_refl _) _
  unfold GRow
  refine ⟨⟨w.heap.size, 0, v, rfl, Nat.zero_le _, hx.lt, ⟨hx.c0, hx.c1, hx.c2, hx.c3, hx.c4, hx.c5⟩, (GV.below h hb (Nat.le_refl _)).mono (Nat.le_refl _) hb.size⟩, ?_⟩
  unfold GRow
  trivial

theorem ev_get {a : Act} {k : Nat} {v : Value} (h : a.eval (.tmp k) = v) : a.tmps[k]?.getD undef = v := by
  rw [← h]
  show _ = a.tmps.getD k undef
  rw [Array.getD_eq_getD_getElem?]

/-- Its three cells are written. -/
def set3 (w : World) (g : Nat) (e : NV) : World := ((w.setCell ⟨g, 0, none⟩ (.slice e.nA e.nL e.nC)).setCell ⟨g, 1, none⟩ (.slice e.mA e.mL e.mC)).setCell ⟨g, 2, none⟩ (.slice e.aA e.aL e.aC)

theorem set3_other (w : World) (g : Nat) (e : NV) (b : Nat) (h : b ≠ g) : (set3 w g e).heap[b]? = w.heap[b]? := by
  unfold set3
  rw [Below.heap_setCell _ ⟨g, 2, none⟩ _ b h, Below.heap_setCell _ ⟨g, 1, none⟩ _ b h, Below.heap_setCell _ ⟨g, 0, none⟩ _ b h]

theorem env_cell {T : TypeId} {w : World} {g : Nat} {e : NV} (h : EnB T w g e) (j : Nat) (v : Value) (hc : w.cell? ⟨g, j, none⟩ = some v) : ∃ A l c, v = .slice A l c := by
  rw [cell_of_row _ _ _ _ _ _ h] at hc
  match j, hc with
  | 0, hc => injection hc with hc; exact ⟨_, _, _, hc.symm⟩
  | 1, hc => injection hc with hc; exact ⟨_, _, _, hc.symm⟩
  | 2, hc => injection hc with hc; exact ⟨_, _, _, hc.symm⟩
  | j + 3, hc => simp at hc

theorem env_store {T : TypeId} {w : World} {g : Nat} {e0 e : NV} {xs zs : List ByteArray} {ns : List Int} (h : EnB T w g e0) (hn : NvIs w e xs zs ns) : EnB T (set3 w g e) g e ∧ NvIs (set3 w g e) e xs zs ns := by
  have hsz : (set3 w g e).heap.size = w.heap.size := by unfold set3; simp
  have hs : ∀ {A : Option Addr} {l : List ByteArray}, StrAt w A l → StrAt (set3 w g e) A l := fun hA i s hi => by
    obtain ⟨b, o, rfl, hb, hc⟩ := hA i s hi
    have hne : b ≠ g := fun hbg => by
      subst hbg
      obtain ⟨_, _, _, hh⟩ := env_cell h _ _ hc
      cases hh
    exact ⟨b, o, rfl, by rw [hsz]; exact hb, by rw [World.cell?_of_block (w := w) (set3_other w g e b hne)]; exact hc⟩
  have hi : ∀ {A : Option Addr} {l : List Int}, IntAt w A l → IntAt (set3 w g e) A l := fun hA i s hi => by
    obtain ⟨b, o, rfl, hb, hc⟩ := hA i s hi
    have hne : b ≠ g := fun hbg => by
      subst hbg
      obtain ⟨_, _, _, hh⟩ := env_cell h _ _ hc
      cases hh
    exact ⟨b, o, rfl, by rw [hsz]; exact hb, by rw [World.cell?_of_block (w := w) (set3_other w g e b hne)]; exact hc⟩
  refine ⟨?_, ⟨hn.nl, hn.ml, hn.al, hn.nc, hn.mc, hn.ac, hs hn.nm, hi hn.ms, hs hn.as_⟩⟩
  have h0 := heap_setCell_same w g 0 _ _ (.slice e.nA e.nL e.nC) h
  have h1 := heap_setCell_same _ g 1 _ _ (.slice e.mA e.mL e.mC) h0
  exact heap_setCell_same _ g 2 _ _ (.slice e.aA e.aL e.aC) h1

/-- What the copying of an environment has at each operation. -/
def envF (w2 : World) (g2 : Nat) (e : NV) (xs zs : List ByteArray) (ns : List Int) (j : Nat) (v : Value) (w : World) : Prop :=
  match j with
  | 0 => v = .pointer (some ⟨g2, 0, none⟩)
  | 1 => v = .slice e.nA e.nL e.nC
  | 2 => ∃ A c, v = .slice A e.nL c ∧ StrAt w A xs ∧ e.nL ≤ c ∧ c ≤ maxLen
  | 3 => ∃ g, v = .slice (some ⟨g, 0, none⟩) 0 0 ∧ FullAt w 3 g []
  | 4 => v = .pointer (some ⟨g2, 1, none⟩)
  | 5 => v = .slice e.mA e.mL e.mC
  | 6 => ∃ A c, v = .slice A e.mL c ∧ IntAt w A ns ∧ e.mL ≤ c ∧ c ≤ maxLen
  | 7 => v = .pointer (some ⟨g2, 2, none⟩)
  | 8 => v = .slice e.aA e.aL e.aC
  | 9 => ∃ A c, v = .slice A e.aL c ∧ StrAt w A zs ∧ e.aL ≤ c ∧ c ≤ maxLen
  | 10 => ∃ A1 c1 A2 c2 A3 c3, v = .agg #[.slice A1 e.nL c1, .slice A2 e.mL c2, .slice A3 e.aL c3] ∧ NvIs w ⟨A1, e.nL, c1, A2, e.mL, c2, A3, e.aL, c3⟩ xs zs ns
  | 11 => ∃ g, v = .pointer (some ⟨g, 0, none⟩) ∧ w2.heap.size ≤ g ∧ EnB 28 w g ⟨none, 0, 0, none, 0, 0, none, 0, 0⟩
  | _ => True

theorem envF_mono (w2 : World) (g2 : Nat) (e : NV) (xs zs : List ByteArray) (ns : List Int) (j : Nat) (v : Value) (w w' : World) (h : envF w2 g2 e xs zs ns j v w) (hb : Below w.heap.size w w') : envF w2 g2 e xs zs ns j v w' := by
  unfold envF at h ⊢
  split at h
  · exact h
  · exact h
  · obtain ⟨A, c, h1, h2, h3⟩ := h; exact ⟨A, c, h1, h2.below hb, h3⟩
  · obtain ⟨g, h1, h2⟩ := h; exact ⟨g, h1, h2.below hb⟩
  · exact h
  · exact h
  · obtain ⟨A, c, h1, h2, h3⟩ := h; exact ⟨A, c, h1, h2.below hb, h3⟩
  · exact h
  · exact h
  · obtain ⟨A, c, h1, h2, h3⟩ := h; exact ⟨A, c, h1, h2.below hb, h3⟩
  · obtain ⟨A1, c1, A2, c2, A3, c3, h1, h2⟩ := h; exact ⟨A1, c1, A2, c2, A3, c3, h1, h2.below hb⟩
  · obtain ⟨g, h1, h2, h3⟩ := h; exact ⟨g, h1, h2, h3.below hb⟩
  · trivial

set_option maxHeartbeats 1600000 in
set_option maxRecDepth 20000 in
theorem tells_law (x : GX) (v : EV) (e : NV) (xs zs : List ByteArray) (ns : List Int) (w : World) (hg : GV w 0 w.heap.size x v) (hr : x.rng) (hf : x.fit) (hN : NvIs w e xs zs ns) (hR : ∀ n ∈ ns, inR n) (hF : NvFit e xs zs) (hK : KwAt w) (hEr : ErrAt w) (hSg : SgAt w) :
    Calls Tryz.prog 3 #[v.val, e.val] w fun e w' => e = .returned (.bool true) ∧ Below w.heap.size w w' := by
  obtain ⟨W0, g1, g2, hW0, hg1, hg2, HX, HE, HB⟩ := two_boxes w v e
  have HEE : Hid (E6 W0) := (E6.mk ⟨hK, hEr⟩ ⟨hK, hSg⟩).below HB.out
  have HS := Lib.hid (small6_any W0 HEE.out)
  have HGV := Lib.hid (fun (W : World) (hb : Below w.heap.size w W) => (GV.below hg hb (Nat.le_refl _)).mono (Nat.le_refl 0) hb.size)
  have HNV := Lib.hid (fun (W : World) (hb : Below w.heap.size w W) => hN.below hb)
  have HR := Lib.hid hr
  have HFT := Lib.hid hf
  have HNR := Lib.hid hR
  have HNF := Lib.hid hF
  have HVV : Hid (v.val = .agg #[.int .i64 v.kind, .int .i64 v.num, .string v.name, .int .i64 v.op, .slice v.A v.len v.cap, .int .i64 v.p]) := rfl
  have HVE : Hid (e.val = .agg #[.slice e.nA e.nL e.nC, .slice e.mA e.mL e.mC, .slice e.aA e.aL e.aC]) := rfl
  rw [HVV.out, HVE.out]
  clear hg hr hN hK hEr hSg hf hR hF
  go_enter Tryz.func3, Tryz.ntmps3
  go_upto_region 1 with fail
  rw [← hW0, ← hg2, ← hg1]
  clear hW0 hg1 hg2
  go_wp2_with fail
  refine HS.out.mono ?_
  rintro r w1 ⟨rfl, hb⟩
  have HB1 := Lib.hid (HB.out.trans (hb.mono HB.out.size))
  have HX1 := Lib.hid (HX.out.below hb)
  have HE1 := Lib.hid (HE.out.below hb)
  clear hb HS HX HE HB HEE
  have HC := Lib.hid (copied_all _ [x] (Nat.le_refl _) (by rw [GX.fits, GX.fits]; exact ⟨HFT.out, trivial⟩) (by rw [List.length_singleton]; omega) _ _ 1 (row_one w1 x v (HGV.out w1 HB1.out)) (by rw [List.length_singleton]; exact Nat.le_refl _))
  have z0 := HX1.out.c0
  have z1 := HX1.out.c1
  have z2 := HX1.out.c2
  have z3 := HX1.out.c3
  have z4 := HX1.out.c4
  have z5 := HX1.out.c5
  go_wp2_with fail
  refine HC.out.mono ?_
  rintro r w2 ⟨A', c', rfl, hc1, hc2, hgr, hb⟩
  have hba : Below w1.heap.size w1 (w1.alloc (.cells #[.int .i64 v.kind, .int .i64 v.num, .string v.name, .int .i64 v.op, .slice v.A v.len v.cap, .int .i64 v.p] 24)) := (Below.refl _ w1).alloc (Nat.le_refl _) _
  have hb2 := hba.trans (hb.mono hba.size)
  have HB2 := Lib.hid (HB1.out.trans (hb2.mono HB1.out.size))
  have HX2 := Lib.hid (HX1.out.below hb2)
  have HE2 := Lib.hid (HE1.out.below hb2)
  obtain ⟨gu, ou, u, hA', _, hgu, hev, hgu2⟩ := hgr.get 0 x rfl
  rw [show ou + (0 + 0) * 6 = ou from by omega] at hev
  have HEV := Lib.hid (fun (W : World) (hb : Below w2.heap.size w2 W) => hev.same (hb.block gu hgu))
  have HGU := Lib.hid (fun (W : World) (hb : Below w2.heap.size w2 W) => (GV.below hgu2 hb (Nat.le_refl _)).mono (Nat.zero_le _) hb.size)
  have hlen1 : ([x] : List GX).length = 1 := rfl
  rw [hlen1] at hc1
  rw [hlen1]
  subst hA'
  have HC1 := Lib.hid hc1
  clear hb hba hb2 hgr hev hgu2 hgu HC hc1 hc2 hlen1 z0 z1 z2 z3 z4 z5 HB1 HX1 HE1
  -- the copies of the environment
  have HNV2 := Lib.hid (HNV.out w2 HB2.out)
  obtain ⟨nA, nL, nC, mA, mL, mC, aA, aL, aC⟩ := e
  simp only at HNV2 HNF HE2 ⊢
  go_upto_region 3 with fail
  go_cut [7] from 20 to 30 (fun s7 wr => ∃ (g7 : Nat) (e' : NV), s7 = .pointer (some ⟨g7, 0, none⟩) ∧ Hid (EnB 28 wr g7 e') ∧ Hid (NvIs wr e' xs zs ns) ∧ Hid (Below w2.heap.size w2 wr))
  case first =>
    refine region_free _ _ _ (by kernel_rfl) 12 rfl (by kernel_rfl) (by kernel_rfl) (fun i => match i with | 1 => [0] | 2 => [1] | 5 => [4] | 6 => [3, 5] | 8 => [7] | 9 => [8] | 10 => [2, 6, 9] | 12 => [11, 10] | _ => []) (by kernel_rfl) (by kernel_rfl)
      (envF w2 g2 ⟨nA, nL, nC, mA, mL, mC, aA, aL, aC⟩ xs zs ns) (fun W => Hid (Below w2.heap.size w2 W))
      (fun vals wr => ∃ (g7 : Nat) (e' : NV), vals 11 = some (.pointer (some ⟨g7, 0, none⟩)) ∧ Hid (EnB 28 wr g7 e') ∧ Hid (NvIs wr e' xs zs ns) ∧ Hid (Below w2.heap.size w2 wr)) (envF_mono _ _ _ _ _ _) (bel6_drew (bel6_refl w2)) ?_ ?_ ?_
    · intro i o hi ho a W hG hbase hdep
      have hi' : i = 0 ∨ i = 1 ∨ i = 2 ∨ i = 3 ∨ i = 4 ∨ i = 5 ∨ i = 6 ∨ i = 7 ∨ i = 8 ∨ i = 9 ∨ i = 10 ∨ i = 11 := by omega
      have hp := hbase 3 (by kernel_rfl)
      replace hp : a.tmps[3]?.getD undef = .pointer (some ⟨g2, 0, none⟩) := ev_get hp
      rcases hi' with rfl | rfl | rfl | rfl | rfl | rfl | rfl | rfl | rfl | rfl | rfl | rfl
      · simp only [List.getElem?_toArray, List.getElem?_cons_zero, Option.some.injEq] at ho
        subst ho
        unfold Oper.wp
        go_simp
        exact ⟨_, rfl, rfl, Below.refl _ _⟩
      · have h0 : a.tmps[20]?.getD undef = .pointer (some ⟨g2, 0, none⟩) := ev_get (show a.eval (.tmp 20) = .pointer (some ⟨g2, 0, none⟩) from hdep 0 (by simp))
        have y0 := (HE2.out.below hG.out).c0
        simp only at y0
        simp only [List.getElem?_toArray, List.getElem?_cons_succ, List.getElem?_cons_zero, Option.some.injEq] at ho
        subst ho
        unfold Oper.wp
        go_simp
        exact ⟨_, rfl, rfl, Below.refl _ _⟩
      · have h0 : a.tmps[21]?.getD undef = .slice nA nL nC := ev_get (show a.eval (.tmp 21) = .slice nA nL nC from hdep 1 (by simp))
        have HC := Lib.hid (copied6_any W nA nL nC xs HNV2.out.nl (HNV2.out.nm.below hG.out) HNF.out.n)
        simp only [List.getElem?_toArray, List.getElem?_cons_succ, List.getElem?_cons_zero, Option.some.injEq] at ho
        subst ho
        unfold Oper.wp
        go_simp
        refine HC.out.mono ?_
        rintro r w' ⟨v', rfl, h1, h2⟩
        obtain ⟨A, c, rfl, h3, h4, h5, _⟩ := h1.str
        have hl := HNV2.out.nl
        simp only at hl
        rw [hl] at h3
        exact ⟨_, rfl, ⟨A, c, by rw [hl], h5, h3, h4⟩, bel6_trans hG h2, h2⟩
      · simp only [List.getElem?_toArray, List.getElem?_cons_succ, List.getElem?_cons_zero, Option.some.injEq] at ho
        subst ho
        unfold Oper.wp
        go_simp
        exact ⟨_, rfl, ⟨_, rfl, full6_new W _⟩, bel6_alloc hG _, (bel6_alloc (bel6_refl W) _).out⟩
      · simp only [List.getElem?_toArray, List.getElem?_cons_succ, List.getElem?_cons_zero, Option.some.injEq] at ho
        subst ho
        unfold Oper.wp
        go_simp
        exact ⟨_, rfl, rfl, Below.refl _ _⟩
      · have h0 : a.tmps[24]?.getD undef = .pointer (some ⟨g2, 1, none⟩) := ev_get (show a.eval (.tmp 24) = .pointer (some ⟨g2, 1, none⟩) from hdep 4 (by simp))
        have y0 := (HE2.out.below hG.out).c1
        simp only at y0
        simp only [List.getElem?_toArray, List.getElem?_cons_succ, List.getElem?_cons_zero, Option.some.injEq] at ho
        subst ho
        unfold Oper.wp
        go_simp
        exact ⟨_, rfl, rfl, Below.refl _ _⟩
      · have h3 : envF w2 g2 ⟨nA, nL, nC, mA, mL, mC, aA, aL, aC⟩ xs zs ns 3 (a.eval (.tmp 23)) W := hdep 3 (by simp)
        obtain ⟨g, h3, hfu⟩ := h3
        have h5 : a.eval (.tmp 25) = .slice mA mL mC := hdep 5 (by simp)
        have h16 := HNF.out.m
        simp only at h16
        obtain ⟨v', w', h1, h2, h4⟩ := run_app_int (w := W) 26 g 0 [] rfl hfu mA mL mC ns HNV2.out.ml (HNV2.out.ms.below hG.out) (by omega) 0 (Nat.zero_le _)
        obtain ⟨A, c, rfl, h6, h7, h8, _⟩ := h2.ints
        have hl := HNV2.out.ml
        simp only at hl
        rw [List.nil_append] at h6 h8
        rw [hl] at h6
        simp only [List.getElem?_toArray, List.getElem?_cons_succ, List.getElem?_cons_zero, Option.some.injEq] at ho
        subst ho
        unfold Oper.wp
        simp only [execOp, resolve, invoke, builtin, Sem.run_bind, Sem.run_pure, Result.andThen_ok, List.map_toArray, List.map_cons, List.map_nil, h3, h5, h1]
        exact ⟨_, rfl, ⟨A, c, by rw [List.nil_append, hl], h8, h6, h7⟩, bel6_trans hG h4, h4⟩
      · simp only [List.getElem?_toArray, List.getElem?_cons_succ, List.getElem?_cons_zero, Option.some.injEq] at ho
        subst ho
        unfold Oper.wp
        go_simp
        exact ⟨_, rfl, rfl, Below.refl _ _⟩
      · have h0 : a.tmps[27]?.getD undef = .pointer (some ⟨g2, 2, none⟩) := ev_get (show a.eval (.tmp 27) = .pointer (some ⟨g2, 2, none⟩) from hdep 7 (by simp))
        have y0 := (HE2.out.below hG.out).c2
        simp only at y0
        simp only [List.getElem?_toArray, List.getElem?_cons_succ, List.getElem?_cons_zero, Option.some.injEq] at ho
        subst ho
        unfold Oper.wp
        go_simp
        exact ⟨_, rfl, rfl, Below.refl _ _⟩
      · have h0 : a.tmps[28]?.getD undef = .slice aA aL aC := ev_get (show a.eval (.tmp 28) = .slice aA aL aC from hdep 8 (by simp))
        have HC := Lib.hid (copied6_any W aA aL aC zs HNV2.out.al (HNV2.out.as_.below hG.out) HNF.out.a)
        simp only [List.getElem?_toArray, List.getElem?_cons_succ, List.getElem?_cons_zero, Option.some.injEq] at ho
        subst ho
        unfold Oper.wp
        go_simp
        refine HC.out.mono ?_
        rintro r w' ⟨v', rfl, h1, h2⟩
        obtain ⟨A, c, rfl, h3, h4, h5, _⟩ := h1.str
        have hl := HNV2.out.al
        simp only at hl
        rw [hl] at h3
        exact ⟨_, rfl, ⟨A, c, by rw [hl], h5, h3, h4⟩, bel6_trans hG h2, h2⟩
      · obtain ⟨A1, c1, h1, q1, q2, q3⟩ : envF w2 g2 ⟨nA, nL, nC, mA, mL, mC, aA, aL, aC⟩ xs zs ns 2 (a.eval (.tmp 22)) W := hdep 2 (by simp)
        obtain ⟨A2, c2, h2, q4, q5, q6⟩ : envF w2 g2 ⟨nA, nL, nC, mA, mL, mC, aA, aL, aC⟩ xs zs ns 6 (a.eval (.tmp 26)) W := hdep 6 (by simp)
        obtain ⟨A3, c3, h3, q7, q8, q9⟩ : envF w2 g2 ⟨nA, nL, nC, mA, mL, mC, aA, aL, aC⟩ xs zs ns 9 (a.eval (.tmp 29)) W := hdep 9 (by simp)
        replace h1 := ev_get h1
        replace h2 := ev_get h2
        replace h3 := ev_get h3
        simp only at h1 h2 h3
        simp only [List.getElem?_toArray, List.getElem?_cons_succ, List.getElem?_cons_zero, Option.some.injEq] at ho
        subst ho
        unfold Oper.wp
        go_simp
        exact ⟨_, rfl, ⟨A1, c1, A2, c2, A3, c3, rfl, ⟨HNV2.out.nl, HNV2.out.ml, HNV2.out.al, ⟨q2, q3⟩, ⟨q5, q6⟩, ⟨q8, q9⟩, q1, q4, q7⟩⟩, Below.refl _ _⟩
      · simp only [List.getElem?_toArray, List.getElem?_cons_succ, List.getElem?_cons_zero, Option.some.injEq] at ho
        subst ho
        unfold Oper.wp
        go_simp
        exact ⟨_, rfl, ⟨_, rfl, hG.out.size, EnB.new _ W ⟨none, 0, 0, none, 0, 0, none, 0, 0⟩⟩, bel6_alloc hG _, (bel6_alloc (bel6_refl W) _).out⟩
    · intro o ho a vals W hG hbase hdep
      obtain ⟨⟨g7, h7, hg7, hen⟩, hv⟩ : envF w2 g2 ⟨nA, nL, nC, mA, mL, mC, aA, aL, aC⟩ xs zs ns 11 (a.eval (.tmp 7)) W ∧ vals 11 = some (a.eval (.tmp 7)) := hdep 11 (by simp)
      rw [h7] at hv
      obtain ⟨⟨A1, c1, A2, c2, A3, c3, h10, hnv⟩, _⟩ : envF w2 g2 ⟨nA, nL, nC, mA, mL, mC, aA, aL, aC⟩ xs zs ns 10 (a.eval (.tmp 30)) W ∧ vals 10 = some (a.eval (.tmp 30)) := hdep 10 (by simp)
      have e0 := hen.c0
      have e1 := hen.c1
      have e2 := hen.c2
      have f0 := hen.fr 0
      have f1 := hen.fr 1
      have f2 := hen.fr 2
      simp only at e0 e1 e2 h10
      simp only [List.getElem?_toArray, List.getElem?_cons_succ, List.getElem?_cons_zero, Option.some.injEq] at ho
      subst ho
      replace h7 := ev_get h7
      replace h10 := ev_get h10
      unfold Oper.wp
      go_simp
      intro vals' hv'
      have hst := env_store hen hnv
      exact ⟨g7, by rw [hv' 11 (by omega), hv], ⟨A1, nL, c1, A2, mL, c2, A3, aL, c3⟩, hst.1, hst.2, bel6_set (bel6_set (bel6_set hG hg7 _) hg7 _) hg7 _⟩
    · intro vals W hF hall
      obtain ⟨g7, e', h11, hen, hnv, hbl⟩ := hF
      obtain ⟨v0, h0⟩ := Option.isSome_iff_exists.1 (hall 0 (by omega))
      obtain ⟨v1, h1⟩ := Option.isSome_iff_exists.1 (hall 1 (by omega))
      obtain ⟨v2, h2⟩ := Option.isSome_iff_exists.1 (hall 2 (by omega))
      obtain ⟨v3, h3⟩ := Option.isSome_iff_exists.1 (hall 3 (by omega))
      obtain ⟨v4, h4⟩ := Option.isSome_iff_exists.1 (hall 4 (by omega))
      obtain ⟨v5, h5⟩ := Option.isSome_iff_exists.1 (hall 5 (by omega))
      obtain ⟨v6, h6⟩ := Option.isSome_iff_exists.1 (hall 6 (by omega))
      obtain ⟨v7, h7⟩ := Option.isSome_iff_exists.1 (hall 7 (by omega))
      obtain ⟨v8, h8⟩ := Option.isSome_iff_exists.1 (hall 8 (by omega))
      obtain ⟨v9, h9⟩ := Option.isSome_iff_exists.1 (hall 9 (by omega))
      obtain ⟨v10, h10⟩ := Option.isSome_iff_exists.1 (hall 10 (by omega))
      obtain ⟨v12, h12⟩ := Option.isSome_iff_exists.1 (hall 12 (by omega))
      simp only [puts, put1, show List.range (12 + 1) = [0, 1, 2, 3, 4, 5, 6, 7, 8, 9, 10, 11, 12] from rfl, List.foldl_cons, List.foldl_nil, h0, h1, h2, h3, h4, h5, h6, h7, h8, h9, h10, h11, h12, List.getElem?_toArray, List.getElem?_cons_succ, List.getElem?_cons_zero, Act.put, List.setIfInBounds_toArray, List.set_cons_zero, List.set_cons_succ]
      clear h0 h1 h2 h3 h4 h5 h6 h7 h8 h9 h10 h11 h12 hall
      go_wp2_with fail
      go_meet
      exact ⟨g7, e', rfl, hen, hnv, hbl⟩
  case rest =>
  obtain ⟨g7, e', rfl, HE7, HNV7, HB27⟩ := hcut
  have HB7 := Lib.hid (HB2.out.trans (HB27.out.mono HB2.out.size))
  have HX7 := Lib.hid (HX2.out.below HB27.out)
  have HG2 := Lib.hid (HE2.out.below HB27.out)
  obtain ⟨k2, num2, S2, op2, A2, len2, cap2, p2⟩ := u
  have hl1 := HNV7.out.nl
  have hl2 := HNV7.out.ml
  have hl3 := HNV7.out.al
  have hl4 := HNV2.out.nl
  have hl5 := HNV2.out.ml
  have hl6 := HNV2.out.al
  obtain ⟨nA', nL', nC', mA', mL', mC', aA', aL', aC'⟩ := e'
  simp only at hl1 hl2 hl3 hl4 hl5 hl6
  rw [hl4] at hl1
  rw [hl5] at hl2
  rw [hl6] at hl3
  subst hl1 hl2 hl3
  have HML := Lib.hid hl5
  clear hl4 hl5 hl6
  have HEV7 := Lib.hid (fun (W : World) (hb : Below wc.heap.size wc W) => HEV.out W (HB27.out.trans (hb.mono HB27.out.size)))
  have HGU7 := Lib.hid (fun (W : World) (hb : Below wc.heap.size wc W) => HGU.out W (HB27.out.trans (hb.mono HB27.out.size)))
  clear HX2 HE2 HNV2 HB2 HB27 HEV HGU
  have hvv := HVV.out
  have hve := HVE.out
  have HC := Lib.hid (eval_any x wc v _ xs zs ns (HNV.out wc HB7.out) (HGV.out wc HB7.out))
  have HRN := Lib.hid (evP_inR (envP xs zs ns) HNR.out x HR.out)
  obtain ⟨⟨N, E⟩, hNE⟩ : ∃ R, evP (envP xs zs ns) x = R := ⟨_, rfl⟩
  have HNE := Lib.hid hNE
  rw [hNE, hvv, hve] at HC
  clear hNE
  obtain ⟨k, num, S, op, A, len, cap, p⟩ := v
  simp only at hvv hve HC ⊢
  have z0 := HX7.out.c0
  have z1 := HX7.out.c1
  have z2 := HX7.out.c2
  have z3 := HX7.out.c3
  have z4 := HX7.out.c4
  have z5 := HX7.out.c5
  have y0 := HG2.out.c0
  have y1 := HG2.out.c1
  have y2 := HG2.out.c2
  simp only at z0 z1 z2 z3 z4 z5 y0 y1 y2
  go_wp2_with fail
  refine HC.out.mono ?_
  rintro r w4 ⟨rfl, hb⟩
  have HB74 := Lib.hid hb
  have HB4 := Lib.hid (HB7.out.trans (hb.mono HB7.out.size))
  have HX4 := Lib.hid (HX7.out.below hb)
  have HG4 := Lib.hid (HG2.out.below hb)
  clear hb HC z0 z1 z2 z3 z4 z5 y0 y1 y2
  have HC := Lib.hid (true_any x w4 _ _ xs zs ns (HNV.out w4 HB4.out) (HGV.out w4 HB4.out))
  rw [HNE.out, hvv, hve] at HC
  obtain ⟨d, hd⟩ : ∃ d, (N != 0) = d := ⟨_, rfl⟩
  simp only [hd] at HC
  have z0 := HX4.out.c0
  have z1 := HX4.out.c1
  have z2 := HX4.out.c2
  have z3 := HX4.out.c3
  have z4 := HX4.out.c4
  have z5 := HX4.out.c5
  have y0 := HG4.out.c0
  have y1 := HG4.out.c1
  have y2 := HG4.out.c2
  simp only at z0 z1 z2 z3 z4 z5 y0 y1 y2
  go_wp2_with fail
  refine HC.out.mono ?_
  rintro r w5 ⟨rfl, hb⟩
  have HB75 := Lib.hid (HB74.out.trans (hb.mono HB74.out.size))
  have HB5 := Lib.hid (HB4.out.trans (hb.mono HB4.out.size))
  have HX5 := Lib.hid (HX4.out.below hb)
  have HG5 := Lib.hid (HG4.out.below hb)
  clear hb HC z0 z1 z2 z3 z4 z5 y0 y1 y2 HX4 HG4 HB4 HB74
  have HC := Lib.hid (reval_any x HR.out w5 _ _ xs zs ns (HNV.out w5 HB5.out) HNR.out (HGV.out w5 HB5.out))
  rw [HNE.out, hvv, hve] at HC
  have z0 := HX5.out.c0
  have z1 := HX5.out.c1
  have z2 := HX5.out.c2
  have z3 := HX5.out.c3
  have z4 := HX5.out.c4
  have z5 := HX5.out.c5
  have y0 := HG5.out.c0
  have y1 := HG5.out.c1
  have y2 := HG5.out.c2
  simp only at z0 z1 z2 z3 z4 z5 y0 y1 y2
  go_wp2_with fail
  refine HC.out.mono ?_
  rintro r w6 ⟨rfl, hb⟩
  have HB76 := Lib.hid (HB75.out.trans (hb.mono HB75.out.size))
  have HB6 := Lib.hid (HB5.out.trans (hb.mono HB5.out.size))
  clear hb HC z0 z1 z2 z3 z4 z5 y0 y1 y2 HX5 HG5 HB5 HB75
  have HSK : Hid (∀ W, Hid (Below w6.heap.size w6 W) → W.cell? ⟨g1, 0, none⟩ = some (.int .i64 k) ∧ W.cell? ⟨g1, 1, none⟩ = some (.int .i64 num) ∧ W.cell? ⟨g1, 2, none⟩ = some (.string S) ∧ W.cell? ⟨g1, 3, none⟩ = some (.int .i64 op) ∧ W.cell? ⟨g1, 4, none⟩ = some (.slice A len cap) ∧ W.cell? ⟨g1, 5, none⟩ = some (.int .i64 p) ∧ W.cell? ⟨gu, ou, none⟩ = some (.int .i64 k2) ∧ W.cell? ⟨gu, ou + 1, none⟩ = some (.int .i64 num2) ∧ W.cell? ⟨gu, ou + 2, none⟩ = some (.string S2) ∧ W.cell? ⟨gu, ou + 3, none⟩ = some (.int .i64 op2) ∧ W.cell? ⟨gu, ou + 4, none⟩ = some (.slice A2 len2 cap2) ∧ W.cell? ⟨gu, ou + 5, none⟩ = some (.int .i64 p2) ∧ W.cell? ⟨g2, 0, none⟩ = some (.slice nA nL nC) ∧ W.cell? ⟨g2, 1, none⟩ = some (.slice mA mL mC) ∧ W.cell? ⟨g2, 2, none⟩ = some (.slice aA aL aC) ∧ W.cell? ⟨g7, 0, none⟩ = some (.slice nA' nL nC') ∧ W.cell? ⟨g7, 1, none⟩ = some (.slice mA' mL mC') ∧ W.cell? ⟨g7, 2, none⟩ = some (.slice aA' aL aC')) := fun W hb => by
    have hb7 := HB76.out.trans (hb.out.mono HB76.out.size)
    have h1 := HX7.out.below hb7
    have h2 := HG2.out.below hb7
    have h3 := HE7.out.below hb7
    obtain ⟨e0, e1, e2, e3, e4, e5⟩ := HEV7.out W hb7
    exact ⟨h1.c0, h1.c1, h1.c2, h1.c3, h1.c4, h1.c5, e0, e1, e2, e3, e4, e5, h2.c0, h2.c1, h2.c2, h3.c0, h3.c1, h3.c2⟩
  have HS5 : Hid (∀ W, Hid (Below w6.heap.size w6 W) → Calls Tryz.prog 13 #[.agg #[.int .i64 k, .int .i64 num, .string S, .int .i64 op, .slice A len cap, .int .i64 p], .agg #[.int .i64 k2, .int .i64 num2, .string S2, .int .i64 op2, .slice A2 len2 cap2, .int .i64 p2], .bool true] W fun r w' => r = .returned (.bool true) ∧ (w'.cell? ⟨g1, 0, none⟩ = some (.int .i64 k) ∧ w'.cell? ⟨g1, 1, none⟩ = some (.int .i64 num) ∧ w'.cell? ⟨g1, 2, none⟩ = some (.string S) ∧ w'.cell? ⟨g1, 3, none⟩ = some (.int .i64 op) ∧ w'.cell? ⟨g1, 4, none⟩ = some (.slice A len cap) ∧ w'.cell? ⟨g1, 5, none⟩ = some (.int .i64 p) ∧ w'.cell? ⟨gu, ou, none⟩ = some (.int .i64 k2) ∧ w'.cell? ⟨gu, ou + 1, none⟩ = some (.int .i64 num2) ∧ w'.cell? ⟨gu, ou + 2, none⟩ = some (.string S2) ∧ w'.cell? ⟨gu, ou + 3, none⟩ = some (.int .i64 op2) ∧ w'.cell? ⟨gu, ou + 4, none⟩ = some (.slice A2 len2 cap2) ∧ w'.cell? ⟨gu, ou + 5, none⟩ = some (.int .i64 p2) ∧ w'.cell? ⟨g2, 0, none⟩ = some (.slice nA nL nC) ∧ w'.cell? ⟨g2, 1, none⟩ = some (.slice mA mL mC) ∧ w'.cell? ⟨g2, 2, none⟩ = some (.slice aA aL aC) ∧ w'.cell? ⟨g7, 0, none⟩ = some (.slice nA' nL nC') ∧ w'.cell? ⟨g7, 1, none⟩ = some (.slice mA' mL mC') ∧ w'.cell? ⟨g7, 2, none⟩ = some (.slice aA' aL aC')) ∧ Hid (Below w6.heap.size w6 w')) := fun W hb => by
    have hb7 := HB76.out.trans (hb.out.mono HB76.out.size)
    have h := esame_any W x x _ _ true (HGV.out W (HB7.out.trans (hb7.mono HB7.out.size))) (HGU7.out W hb7)
    rw [(sm_true x x).2 rfl, hvv] at h
    refine h.mono ?_
    rintro r w' ⟨rfl, h1⟩
    have h2 := bel6_trans hb h1
    exact ⟨rfl, HSK.out w' h2, h2⟩
  have HS6 : Hid (∀ W B1 n c B2 d, Hid (Below w6.heap.size w6 W) → ((B1 = nA ∧ n = nL ∧ c = nC ∧ B2 = nA' ∧ d = nC') ∨ (B1 = aA ∧ n = aL ∧ c = aC ∧ B2 = aA' ∧ d = aC')) → Calls Tryz.prog 14 #[.slice B1 n c, .slice B2 n d] W fun r w' => r = .returned (.bool true) ∧ (w'.cell? ⟨g1, 0, none⟩ = some (.int .i64 k) ∧ w'.cell? ⟨g1, 1, none⟩ = some (.int .i64 num) ∧ w'.cell? ⟨g1, 2, none⟩ = some (.string S) ∧ w'.cell? ⟨g1, 3, none⟩ = some (.int .i64 op) ∧ w'.cell? ⟨g1, 4, none⟩ = some (.slice A len cap) ∧ w'.cell? ⟨g1, 5, none⟩ = some (.int .i64 p) ∧ w'.cell? ⟨gu, ou, none⟩ = some (.int .i64 k2) ∧ w'.cell? ⟨gu, ou + 1, none⟩ = some (.int .i64 num2) ∧ w'.cell? ⟨gu, ou + 2, none⟩ = some (.string S2) ∧ w'.cell? ⟨gu, ou + 3, none⟩ = some (.int .i64 op2) ∧ w'.cell? ⟨gu, ou + 4, none⟩ = some (.slice A2 len2 cap2) ∧ w'.cell? ⟨gu, ou + 5, none⟩ = some (.int .i64 p2) ∧ w'.cell? ⟨g2, 0, none⟩ = some (.slice nA nL nC) ∧ w'.cell? ⟨g2, 1, none⟩ = some (.slice mA mL mC) ∧ w'.cell? ⟨g2, 2, none⟩ = some (.slice aA aL aC) ∧ w'.cell? ⟨g7, 0, none⟩ = some (.slice nA' nL nC') ∧ w'.cell? ⟨g7, 1, none⟩ = some (.slice mA' mL mC') ∧ w'.cell? ⟨g7, 2, none⟩ = some (.slice aA' aL aC')) ∧ Hid (Below w6.heap.size w6 w')) := fun W B1 n c B2 d hb hw => by
    have hb7 := HB76.out.trans (hb.out.mono HB76.out.size)
    have n1 := HNV.out W (HB7.out.trans (hb7.mono HB7.out.size))
    have n2 := HNV7.out.below hb7
    have h : Calls Tryz.prog 14 #[.slice B1 n c, .slice B2 n d] W fun r w' => r = .returned (.bool true) ∧ Below W.heap.size W w' := by
      rcases hw with ⟨rfl, rfl, rfl, rfl, rfl⟩ | ⟨rfl, rfl, rfl, rfl, rfl⟩
      · have h := rsame6_any W _ _ _ _ _ _ xs xs n1.nm n2.nm n1.nl n2.nl n1.nc n2.nc
        rw [decide_eq_true rfl] at h
        exact h
      · have h := rsame6_any W _ _ _ _ _ _ zs zs n1.as_ n2.as_ n1.al n2.al n1.ac n2.ac
        rw [decide_eq_true rfl] at h
        exact h
    refine h.mono ?_
    rintro r w' ⟨rfl, h1⟩
    have h2 := bel6_trans hb h1
    exact ⟨rfl, HSK.out w' h2, h2⟩
  have HC2 : Hid (0 < c' ∧ 1 ≤ c') := by have := HC1.out; exact ⟨by omega, by omega⟩
  have HB60 := bel6_refl w6
  obtain ⟨hq1, hq2⟩ := HC2.out
  have q3 : ((mL : Int) == mL) = true := beq_self_eq_true _
  obtain ⟨z0, z1, z2, z3, z4, z5, x0, x1, x2, x3, x4, x5, y0, y1, y2, t0, t1, t2⟩ := HSK.out w6 HB60
  go_upto_region 7 with fail
  go_region_held3 (fun W => W.cell? ⟨g1, 0, none⟩ = some (.int .i64 k) ∧ W.cell? ⟨g1, 1, none⟩ = some (.int .i64 num) ∧ W.cell? ⟨g1, 2, none⟩ = some (.string S) ∧ W.cell? ⟨g1, 3, none⟩ = some (.int .i64 op) ∧ W.cell? ⟨g1, 4, none⟩ = some (.slice A len cap) ∧ W.cell? ⟨g1, 5, none⟩ = some (.int .i64 p) ∧ W.cell? ⟨gu, ou, none⟩ = some (.int .i64 k2) ∧ W.cell? ⟨gu, ou + 1, none⟩ = some (.int .i64 num2) ∧ W.cell? ⟨gu, ou + 2, none⟩ = some (.string S2) ∧ W.cell? ⟨gu, ou + 3, none⟩ = some (.int .i64 op2) ∧ W.cell? ⟨gu, ou + 4, none⟩ = some (.slice A2 len2 cap2) ∧ W.cell? ⟨gu, ou + 5, none⟩ = some (.int .i64 p2) ∧ W.cell? ⟨g2, 0, none⟩ = some (.slice nA nL nC) ∧ W.cell? ⟨g2, 1, none⟩ = some (.slice mA mL mC) ∧ W.cell? ⟨g2, 2, none⟩ = some (.slice aA aL aC) ∧ W.cell? ⟨g7, 0, none⟩ = some (.slice nA' nL nC') ∧ W.cell? ⟨g7, 1, none⟩ = some (.slice mA' mL mC') ∧ W.cell? ⟨g7, 2, none⟩ = some (.slice aA' aL aC')) ((refine HSK.out _ ?_; first | with_reducible exact HBb | with_reducible exact HBa | with_reducible exact bel6_drew HB60)) (first | (go_at_call 13; refine (HS5.out _ (by first | with_reducible exact HB60 | with_reducible exact bel6_drew HB60)).mono ?_; rintro r wa ⟨rfl, ⟨az0, az1, az2, az3, az4, az5, ax0, ax1, ax2, ax3, ax4, ax5, ay0, ay1, ay2, at0, at1, at2⟩, HBa⟩) | (go_at_call 14; refine (HS6.out _ _ _ _ _ _ (by first | with_reducible exact HBb | with_reducible exact HBa | with_reducible exact bel6_drew HB60) (by first | exact .inl ⟨rfl, rfl, rfl, rfl, rfl⟩ | exact .inr ⟨rfl, rfl, rfl, rfl, rfl⟩)).mono ?_; rintro r wb ⟨rfl, ⟨bz0, bz1, bz2, bz3, bz4, bz5, bx0, bx1, bx2, bx3, bx4, bx5, by0, by1, by2, bt0, bt1, bt2⟩, HBb⟩))
  have HBL := Lib.hid HBb.out
  clear z0 z1 z2 z3 z4 z5 x0 x1 x2 x3 x4 x5 y0 y1 y2 t0 t1 t2 bz0 bz1 bz2 bz3 bz4 bz5 bx0 bx1 bx2 bx3 bx4 bx5 by0 by1 by2 bt0 bt1 bt2 HS5 HS6 HSK HX7 HGU7 HEV7 HGV hvv hve HVV HVE HFT HR HRN HNR HNE HC1 HC2 hq1 hq2 q3 HB60 HBb HBa
  have HC3 : Hid (mL ≤ 9223372036854775807) := by
    have h1 := HNV7.out.mc.1
    have h2 := HNV7.out.mc.2
    unfold maxLen at h2
    exact Nat.le_trans h1 (by omega)
  go_wp2_with fail
  go_loopw [14, 15] (fun kv iv wr => ∃ i : Nat, i ≤ mL ∧ kv = .bool true ∧ iv = .int .i64 (i : Int) ∧ Hid (Below w6.heap.size w6 wr)) (fun _ iv _ => mL - (intOf iv).toNat)
  case atStart => exact ⟨0, Nat.zero_le _, rfl, rfl, HBL⟩
  case round =>
    obtain ⟨i, hi, rfl, rfl, HBW⟩ := hrel
    have hb7 := Lib.hid (HB76.out.trans (HBW.out.mono HB76.out.size))
    have y1 := (HG2.out.below hb7.out).c1
    have t1 := (HE7.out.below hb7.out).c1
    simp only at y1 t1
    by_cases him : i < mL
    · have HIM := Lib.hid him
      have him' : (i : Int) < mL := by omega
      obtain ⟨m, hm⟩ : ∃ m, ns[i]? = some m := ⟨_, List.getElem?_eq_getElem (by rw [HML.out]; exact him)⟩
      obtain ⟨ga, oa, hA1, _, x0⟩ := (HNV.out wr (HB7.out.trans (hb7.out.mono HB7.out.size))).ms i m hm
      obtain ⟨gb, ob, hA2, _, x1⟩ := (HNV7.out.below hb7.out).ms i m hm
      simp only at hA1 hA2
      rw [hA1] at y1
      rw [hA2] at t1
      have q4 : (m == m) = true := beq_self_eq_true _
      clear hm hA1 hA2
      go_wp2_with fail
      go_quiet (fail)
      go_wp2_with fail
      go_roundw
      case rel => exact ⟨i + 1, by have := HIM.out; omega, rfl, by have h1 := HIM.out; have h2 := HC3.out; rw [Go.IntWalk.wrap64_in _ ⟨by omega, by omega⟩]; rfl, HBW.out.trans ((drewN_below6 wr _).mono HBW.out.size)⟩
      case measure => have h1 := HIM.out; have h2 := HC3.out; rw [Go.IntWalk.wrap64_in _ ⟨by omega, by omega⟩]; simp [intOf]; omega
    · have him' : ¬ (i : Int) < mL := by omega
      have q1 : (N == N) = true := beq_self_eq_true _
      have q2 : (E == E) = true := beq_self_eq_true _
      have q5 : (d == d) = true := beq_self_eq_true _
      go_wp2_with fail
      go_ret
      exact ⟨rfl, HB6.out.trans (HBW.out.mono HB6.out.size)⟩

end Go.Proofs.YthgodhojhajahaaGreatDoor
