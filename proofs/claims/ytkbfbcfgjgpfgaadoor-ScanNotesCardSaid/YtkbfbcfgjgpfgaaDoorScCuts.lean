/-
  The law ScanCuts: its walk.
-/
import Derived.Test.YtkbfbcfgjgpfgaaDoorScSm
import Derived.Test.YtkbfbcfgjgpfgaaDoorScRTok
import Derived.Test.YtkbfbcfgjgpfgaaDoorScLaid
namespace Go.Proofs.YtkbfbcfgjgpfgaaDoor
open Go.RowKit

/-- What the walks of stage 4's laws ask of the variables. -/
structure Vars (w : World) : Prop where
  kw : KwAt w
  er : ErrAt w

theorem Vars.below {w w' : World} (h : Vars w) (hb : Below w.heap.size w w') : Vars w' := ⟨h.kw.below hb, errAt_below h.er hb⟩

/-- A block with room for n tokens. -/
def Room (w : World) (g n : Nat) : Prop := ∃ cur, w.heap[g]? = some (.cells cur 31 (0, 0)) ∧ n * 4 ≤ cur.size

theorem Room.cell {w : World} {g n : Nat} (h : Room w g n) {j : Nat} (hj : j < n * 4) : ∃ u, w.cell? ⟨g, j, none⟩ = some u := by
  obtain ⟨cur, h, hs⟩ := h
  exact ⟨_, (cell_of_row w g j _ _ _ h).trans (Array.getElem?_eq_getElem (by omega))⟩

theorem Room.fr {w : World} {g n : Nat} (h : Room w g n) (j : Nat) : w.frozen? ⟨g, j, none⟩ = false := by
  obtain ⟨cur, h, _⟩ := h
  exact frozen_of_row w g j cur _ h

theorem Room.set {w : World} {g n : Nat} (h : Room w g n) (j : Nat) (u : Value) : Room (w.setCell ⟨g, j, none⟩ u) g n := by
  obtain ⟨cur, h, hs⟩ := h
  exact ⟨_, heap_setCell_same w g j cur _ u h, by simpa using hs⟩

theorem Room.below {w w' : World} {g n : Nat} (h : Room w g n) (hb : Below w.heap.size w w') : Room w' g n := by
  obtain ⟨cur, h, hs⟩ := h
  refine ⟨cur, ?_, hs⟩
  rw [hb.block g ?_]
  · exact h
  · rcases Nat.lt_or_ge g w.heap.size with h' | h'
    · exact h'
    · rw [Array.getElem?_eq_none h'] at h; cases h

theorem TkRow.room {w : World} {B : Nat} {g n c : Nat} {xs : List Tk} (h : TkRow w B (.slice (some ⟨g, 0, none⟩) n c) xs) : n = xs.length ∧ Room w g n := by
  rcases h.2 with ⟨e, _⟩ | ⟨g', cap, cur, e, _, hh, hc, _, hs, _⟩
  · cases e
  · simp only [Value.slice.injEq, Option.some.injEq, Addr.mk.injEq, and_true] at e
    obtain ⟨rfl, rfl, rfl⟩ := e
    exact ⟨rfl, cur, hh, by omega⟩

/-- A slice that is the call's own reads as its tokens. -/
theorem TkRow.reads {w : World} {B : Nat} {A : Option Addr} {n c : Nat} {xs : List Tk} (h : TkRow w B (.slice A n c) xs) : TkSrc w A n xs := by
  obtain ⟨A', c', e, _, _, _, hs⟩ := h.src
  simp only [Value.slice.injEq] at e
  obtain ⟨rfl, rfl, rfl⟩ := e
  exact hs

theorem TkRow.len {w : World} {B : Nat} {A : Option Addr} {n c : Nat} {xs : List Tk} (h : TkRow w B (.slice A n c) xs) : n = xs.length := by
  obtain ⟨A', c', e, _⟩ := h.src
  simp only [Value.slice.injEq] at e
  exact e.2.1

theorem TkRow.put {w w' : World} {B g : Nat} {v : Value} {xs : List Tk} (h : TkRow w B v xs) (hm : Mv g w w') (hne : v.ownBlock ≠ some g) : TkRow w' B v xs := h.grown hm (.inr hne)

theorem FtB.put {w w' : World} {f g : Nat} {x y : Value} (h : FtB w f x y) (hm : Mv g w w') (hne : f ≠ g) : FtB w' f x y := h.grown hm (by simpa using hne)

/-- Four cells of a token's room are written. -/
theorem Mv.four {g : Nat} {w w' : World} (h : Mv g w w') (i : Nat) (y0 y1 y2 y3 : Value) : Mv g w ((((w'.setCell ⟨g, i, none⟩ y0).setCell ⟨g, i + 1, none⟩ y1).setCell ⟨g, i + 2, none⟩ y2).setCell ⟨g, i + 3, none⟩ y3) :=
  (((h.set i y0).set (i + 1) y1).set (i + 2) y2).set (i + 3) y3

theorem Room.four {w : World} {g n : Nat} (h : Room w g n) (i : Nat) (y0 y1 y2 y3 : Value) : Room ((((w.setCell ⟨g, i, none⟩ y0).setCell ⟨g, i + 1, none⟩ y1).setCell ⟨g, i + 2, none⟩ y2).setCell ⟨g, i + 3, none⟩ y3) g n :=
  (((h.set i y0).set (i + 1) y1).set (i + 2) y2).set (i + 3) y3

theorem tokens_vars (w : World) (s : ByteArray) (h : Vars w) (R : List Tk × Int × Int) (hR : scF s.data.toList = R) :
    Calls Tryd.prog 8 #[.string s] w fun e w' => ∃ A c, e = .returned (.tuple #[.slice A R.1.length c, .agg #[.int .i64 R.2.1, .int .i64 R.2.2]]) ∧ (A = none → c = 0) ∧ R.1.length ≤ c ∧ c ≤ maxLen ∧ TkRow w' w.heap.size (.slice A R.1.length c) R.1 ∧ Below w.heap.size w w' := by
  have := tokens_any w s h.kw h.er
  rw [hR] at this
  refine this.mono ?_
  rintro e w' ⟨v, rfl, hr, hb⟩
  obtain ⟨A, c, rfl, h1, h2, h3, _⟩ := hr.src
  exact ⟨A, c, rfl, h3, h1, h2, hr, hb⟩

theorem rtokens_vars (w : World) (s : ByteArray) (R : List Tk × Int × Int) (hR : scF s.data.toList = R) :
    Calls Tryd.prog 9 #[.string s] w fun e w' => ∃ A c, e = .returned (.tuple #[.slice A R.1.length c, .agg #[.int .i64 R.2.1, .int .i64 R.2.2]]) ∧ (A = none → c = 0) ∧ R.1.length ≤ c ∧ c ≤ maxLen ∧ TkRow w' w.heap.size (.slice A R.1.length c) R.1 ∧ Below w.heap.size w w' := by
  have := rtokens_any w s
  rw [hR] at this
  refine this.mono ?_
  rintro e w' ⟨v, rfl, hr, hb⟩
  obtain ⟨A, c, rfl, h1, h2, h3, _⟩ := hr.src
  exact ⟨A, c, rfl, h3, h1, h2, hr, hb⟩

theorem scA_len : ∀ (f p : Nat) (acc : List Tk) (l : List UInt8), acc.length ≤ p → (scA f p acc l).1.length ≤ p + l.length + 1
  | 0, _, _, _, _ => Nat.zero_le _
  | f + 1, p, acc, l, h => by
    have hb := blK_le false l
    rw [scA]
    split
    · simp only [List.length_append, List.length_singleton]
      omega
    · rename_i h0
      split
      · rename_i h1
        have hp := tkS_pos2 h0 h1
        have hs := tkS_le (l.drop (blK false l))
        rw [List.length_drop] at hs
        refine Nat.le_trans (scA_len f _ _ _ (by rw [List.length_append, List.length_singleton]; omega)) ?_
        rw [List.length_drop, List.length_drop]
        omega
      · exact Nat.zero_le _

theorem scF_len (l : List UInt8) : (scF l).1.length ≤ 16385 := by
  unfold scF
  split
  · exact Nat.zero_le _
  · refine Nat.le_trans (scA_len _ 0 [] l (Nat.le_refl _)) ?_
    omega

set_option maxHeartbeats 3200000 in
set_option maxRecDepth 20000 in
theorem cuts_walk (s : ByteArray) (w : World) (hV : Vars w) :
    Calls Tryd.prog 3 #[.string s] w fun e w' => e = .returned (.bool true) ∧ Below w.heap.size w w' := by
  have HV := Lib.hid hV
  obtain ⟨R, hR⟩ : ∃ R, scF s.data.toList = R := ⟨_, rfl⟩
  have hn : R.1.length ≤ 16385 := by rw [← hR]; exact scF_len _
  have H1 := Lib.hid (ssm_any w hV.kw hV.er)
  have H2 := Lib.hid (fun W hV => tokens_vars W s hV R hR)
  have H3 := Lib.hid (fun W => rtokens_vars W s R hR)
  clear hV hR
  obtain ⟨X, c, a⟩ := R
  simp only at H2 H3 hn
  obtain ⟨n, hnX⟩ : ∃ n, X.length = n := ⟨_, rfl⟩
  rw [hnX] at H2 H3 hn
  have HNX := Lib.hid hnX
  clear hnX
  go_enter Tryd.func3, Tryd.ntmps3
  go_wp2_with fail
  refine H1.out.mono ?_
  rintro e w1 ⟨rfl, hb⟩
  have HB1 := Lib.hid hb
  have HV1 := Lib.hid (HV.out.below hb)
  clear hb
  go_wp2_with fail
  refine (H2.out w1 HV1.out).mono ?_
  rintro e w2 ⟨A1, c1, rfl, hA1, hn1, hc1, hr, hb⟩
  have HR1 := Lib.hid hr
  have HB2 : Hid (Below w.heap.size w w2) := HB1.out.trans (hb.mono HB1.out.size)
  have HV2 := Lib.hid (HV1.out.below hb)
  clear hr hb
  obtain ⟨g5, hg5⟩ : ∃ g, g = w2.heap.size := ⟨_, rfl⟩
  obtain ⟨W2, hW2⟩ : ∃ W, W = w2.alloc (.cells #[.int .i64 c, .int .i64 a] 26) := ⟨_, rfl⟩
  have HR1' : Hid (TkRow W2 w1.heap.size (.slice A1 n c1) X) := by rw [hW2]; exact HR1.out.alloc _
  have HF5 : Hid (FtB W2 g5 (.int .i64 c) (.int .i64 a)) := by rw [hW2, hg5]; exact FtB.new _ _ _
  have HB3 : Hid (Below w.heap.size w W2) := by rw [hW2]; exact HB2.out.alloc HB2.out.size _
  have HV3 : Hid (Vars W2) := HV2.out.below (by rw [hW2]; exact (Below.refl _ w2).alloc (Nat.le_refl _) _)
  go_upto_region 3 with fail
  rw [← hW2, ← hg5]
  have HBW1 : Hid (w.heap.size ≤ w1.heap.size) := HB1.out.size
  clear hW2 hg5 HR1 HB1 HB2 HV1 HV2
  go_wp2_with fail
  refine (H2.out W2 HV3.out).mono ?_
  rintro e w3 ⟨A2, c2, rfl, hA2, hn2, hc2, hr, hb⟩
  have HR2 := Lib.hid hr
  have HR1 := Lib.hid (HR1'.out.below hb)
  have HF5' := Lib.hid (HF5.out.below hb)
  have HB4 : Hid (Below w.heap.size w w3) := HB3.out.trans (hb.mono HB3.out.size)
  have HS12 : Hid (∀ k, (Value.slice A1 n c1).ownBlock = some k → (Value.slice A2 n c2).ownBlock ≠ some k) := fun k h1 h2 => by
    have := (HR1'.out.lt k h1).2
    have := (HR2.out.lt k h2).1
    omega
  clear hr hb HR1' HF5
  obtain ⟨g7, hg7⟩ : ∃ g, g = w3.heap.size := ⟨_, rfl⟩
  obtain ⟨W3, hW3⟩ : ∃ W, W = w3.alloc (.cells #[.int .i64 c, .int .i64 a] 26) := ⟨_, rfl⟩
  have HR1' : Hid (TkRow W3 w1.heap.size (.slice A1 n c1) X) := by rw [hW3]; exact HR1.out.alloc _
  have HR2' : Hid (TkRow W3 W2.heap.size (.slice A2 n c2) X) := by rw [hW3]; exact HR2.out.alloc _
  have HF5 : Hid (FtB W3 g5 (.int .i64 c) (.int .i64 a)) := by rw [hW3]; exact HF5'.out.alloc _
  have HB5 : Hid (Below w.heap.size w W3) := by rw [hW3]; exact HB4.out.alloc HB4.out.size _
  go_upto_region 4 with fail
  rw [← hW3, ← hg7]
  clear hW3 hg7 HR1 HR2 HB3 HB4 HF5'
  go_wp2_with fail
  refine (H3.out W3).mono ?_
  rintro e w4 ⟨A3, c3, rfl, hA3, hn3, hc3, hr, hb⟩
  have HR3 := Lib.hid hr
  have HR1 := Lib.hid (HR1'.out.below hb)
  have HR2 := Lib.hid (HR2'.out.below hb)
  have HF5' := Lib.hid (HF5.out.below hb)
  have HB4 : Hid (Below w.heap.size w w4) := HB5.out.trans (hb.mono HB5.out.size)
  have HS13 : Hid (∀ k, (Value.slice A1 n c1).ownBlock = some k → (Value.slice A3 n c3).ownBlock ≠ some k) := fun k h1 h2 => by
    have := (HR1'.out.lt k h1).2
    have := (HR3.out.lt k h2).1
    omega
  clear hr hb HR1' HR2' HF5
  obtain ⟨g9, hg9⟩ : ∃ g, g = w4.heap.size := ⟨_, rfl⟩
  obtain ⟨W4, hW4⟩ : ∃ W, W = w4.alloc (.cells #[.int .i64 c, .int .i64 a] 26) := ⟨_, rfl⟩
  have HR1' : Hid (TkRow W4 w1.heap.size (.slice A1 n c1) X) := by rw [hW4]; exact HR1.out.alloc _
  have HR2' : Hid (TkRow W4 W2.heap.size (.slice A2 n c2) X) := by rw [hW4]; exact HR2.out.alloc _
  have HR3' : Hid (TkRow W4 W3.heap.size (.slice A3 n c3) X) := by rw [hW4]; exact HR3.out.alloc _
  have HF5 : Hid (FtB W4 g5 (.int .i64 c) (.int .i64 a)) := by rw [hW4]; exact HF5'.out.alloc _
  have HF9 : Hid (FtB W4 g9 (.int .i64 c) (.int .i64 a)) := by rw [hW4, hg9]; exact FtB.new _ _ _
  have HB5 : Hid (Below w.heap.size w W4) := by rw [hW4]; exact HB4.out.alloc HB4.out.size _
  have HSM := Lib.hid (same_any W4 A1 A3 n n c1 c3 X X HR1'.out.reads HR3'.out.reads (by omega))
  rw [decide_eq_true (rfl : X = X)] at HSM
  go_upto_region 5 with fail
  rw [← hW4, ← hg9]
  clear hW4 hg9 HR1 HR2 HR3 HB4 HF5'
  go_wp2_with fail
  refine HSM.out.mono ?_
  rintro e w5 ⟨rfl, m5, rfl⟩
  obtain ⟨W5, hW5⟩ : ∃ W, W = W4.drewN m5 := ⟨_, rfl⟩
  have HR1 : Hid (TkRow W5 w1.heap.size (.slice A1 n c1) X) := by rw [hW5]; exact HR1'.out
  have HR2 : Hid (TkRow W5 W2.heap.size (.slice A2 n c2) X) := by rw [hW5]; exact HR2'.out
  have HR3 : Hid (TkRow W5 W3.heap.size (.slice A3 n c3) X) := by rw [hW5]; exact HR3'.out
  have HF5' : Hid (FtB W5 g5 (.int .i64 c) (.int .i64 a)) := by rw [hW5]; exact HF5.out
  have HF9' : Hid (FtB W5 g9 (.int .i64 c) (.int .i64 a)) := by rw [hW5]; exact HF9.out
  have HB6 : Hid (Below w.heap.size w W5) := by rw [hW5]; exact HB5.out.trans ((drewN_below W4 m5).mono HB5.out.size)
  have HRM : Hid (∀ g, A1 = some ⟨g, 0, none⟩ → Room W5 g n ∧ w.heap.size ≤ g ∧ g ≠ g5 ∧ g ≠ g9 ∧ (Value.slice A2 n c2).ownBlock ≠ some g ∧ (Value.slice A3 n c3).ownBlock ≠ some g) := by
    rintro g rfl
    have hown : (Value.slice (some ⟨g, 0, none⟩) n c1).ownBlock = some g := rfl
    refine ⟨HR1.out.room.2, ?_, ?_, ?_, HS12.out g hown, HS13.out g hown⟩
    · exact Nat.le_trans HBW1.out ((HR1.out.lt g hown).1)
    · rintro rfl
      exact HR1.out.ne HF5'.out (by decide) hown
    · rintro rfl
      exact HR1.out.ne HF9'.out (by decide) hown
  rw [← hW5]
  clear hW5 HR1' HR2' HR3' HF5 HF9 HB5 HS12 HS13
  go_wp2_with fail
  go_loopw [11] (fun iv wr => ∃ k : Nat, k ≤ n ∧ iv = .int .i64 k ∧ Hid (∀ g, A1 = some ⟨g, 0, none⟩ → Room wr g n) ∧ Hid (TkRow wr W2.heap.size (.slice A2 n c2) X) ∧ Hid (TkRow wr W3.heap.size (.slice A3 n c3) X) ∧ Hid (FtB wr g5 (.int .i64 c) (.int .i64 a)) ∧ Hid (FtB wr g9 (.int .i64 c) (.int .i64 a)) ∧ Hid (Below w.heap.size w wr)) (fun iv _ => n - (intOf iv).toNat)
  case atStart => exact ⟨0, Nat.zero_le _, rfl, fun g h => (HRM.out g h).1, HR2, HR3, HF5', HF9', HB6⟩
  case round =>
    obtain ⟨k, hk, rfl, HRR, HR2', HR3', HF5, HF9, HB7⟩ := hrel
    by_cases hkn : k < n
    · have hkn' : (k : Int) < n := by omega
      obtain ⟨g, hg, _⟩ := HR1.out.reads.2 k (X[k]'(by rw [HNX.out]; exact hkn)) (List.getElem?_eq_getElem _)
      subst hg
      have HRG := Lib.hid (HRR.out g rfl)
      obtain ⟨_, hgw, hg5, hg9, hg2, hg3⟩ := HRM.out g rfl
      obtain ⟨x0, y0⟩ := HRG.out.cell (j := k * 4) (by omega)
      obtain ⟨x1, y1⟩ := HRG.out.cell (j := k * 4 + 1) (by omega)
      obtain ⟨x2, y2⟩ := HRG.out.cell (j := k * 4 + 2) (by omega)
      obtain ⟨x3, y3⟩ := HRG.out.cell (j := k * 4 + 3) (by omega)
      have f0 := HRG.out.fr (k * 4)
      have f1 := HRG.out.fr (k * 4 + 1)
      have f2 := HRG.out.fr (k * 4 + 2)
      have f3 := HRG.out.fr (k * 4 + 3)
      have HG := Lib.hid (And.intro hg2 (And.intro hg3 (And.intro (fun e => hg5 e.symm : g5 ≠ g) (fun e => hg9 e.symm : g9 ≠ g))))
      clear hg2 hg3 hg5 hg9
      go_wp2_with fail
      go_roundw
      case rel => exact ⟨k + 1, by omega, by go_num, fun g' e => by
        obtain ⟨rfl⟩ := e
        exact HRG.out.four _ _ _ _ _, HR2'.out.put ((Mv.refl g wr).four _ _ _ _ _) HG.out.1, HR3'.out.put ((Mv.refl g wr).four _ _ _ _ _) HG.out.2.1, HF5.out.put ((Mv.refl g wr).four _ _ _ _ _) HG.out.2.2.1, HF9.out.put ((Mv.refl g wr).four _ _ _ _ _) HG.out.2.2.2, ((Mv.refl g wr).four _ _ _ _ _).belowB HB7.out hgw HB7.out.size⟩
      case measure => simp [intOf]; omega
    · have hkn' : ¬ (k : Int) < n := by omega
      have HSM := Lib.hid (same_any wr A2 A3 n n c2 c3 X X HR2'.out.reads HR3'.out.reads (by omega))
      rw [decide_eq_true (rfl : X = X)] at HSM
      go_wp2_with fail
      refine HSM.out.mono ?_
      rintro e w5 ⟨rfl, m6, rfl⟩
      have s0 : (wr.drewN m6).cell? ⟨g5, 0, none⟩ = _ := HF5.out.c0
      have s1 : (wr.drewN m6).cell? ⟨g5, 1, none⟩ = _ := HF5.out.c1
      have s2 : (wr.drewN m6).cell? ⟨g9, 0, none⟩ = _ := HF9.out.c0
      have s3 : (wr.drewN m6).cell? ⟨g9, 1, none⟩ = _ := HF9.out.c1
      have b0 : (c == c) = true := beq_self_eq_true _
      have b1 : (a == a) = true := beq_self_eq_true _
      have z1 := heldF
      have z2 := guardF
      go_wp2_with fail
      go_ret
      exact ⟨rfl, HB7.out.trans ((drewN_below wr m6).mono HB7.out.size)⟩

theorem cuts_law (s : ByteArray) (w : World) (_hl : s.size ≤ maxLen) (_hs : s.size ≤ 140737488351232) (hK : KwAt w) (hE : ErrAt w) :
    Calls Tryd.prog 3 #[.string s] w fun e w' => e = .returned (.bool true) ∧ Below w.heap.size w w' := cuts_walk s w ⟨hK, hE⟩

end Go.Proofs.YtkbfbcfgjgpfgaaDoor
