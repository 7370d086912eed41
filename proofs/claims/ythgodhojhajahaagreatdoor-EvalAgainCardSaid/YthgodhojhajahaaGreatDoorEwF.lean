/-
  The writer of expressions: operands, expressions.
-/
import Derived.Test.YthgodhojhajahaaGreatDoorEwE
import Derived.Test.YthgodhojhajahaaGreatDoorEwS
import Derived.Test.YthgodhojhajahaaGreatDoorCA
import Derived.Test.YthgodhojhajahaaGreatDoorEA
namespace Go.Proofs.YthgodhojhajahaaGreatDoor
open Go.RowKit

/-- What the writer rests on. -/
structure Wv (w : World) : Prop where
  kw : KwAt w
  sg : SgAt w
  pw : PowTab w

theorem Wv.below {w w' : World} (h : Wv w) (hb : Below w.heap.size w w') : Wv w' := ⟨h.kw.below hb, h.sg.below hb, h.pw.below hb⟩

/-- What a part of the writer answers and leaves. -/
def WQ (B b : Nat) (l : List UInt8) (n d : Nat) (t : Ex → List UInt8) (w' : World) (r : Bool) (y : Option Ex) : Prop :=
  (r = false ∧ y = none) ∨ (r = true ∧ ∃ e, y = some e ∧ WB w' B b (l ++ t e) (n + e.size) d)

def WExp (u : World) (b : Nat) (x : GX) : Prop := ∀ (w : World) (v : EV) (l : List UInt8) (n d : Nat), GV u 0 u.heap.size x v → Below u.heap.size u w → WB w u.heap.size b l n d → d ≤ 20 → n ≤ 16384 → l.length ≤ 16384 →
  Calls Tryz.prog 26 #[.pointer (some ⟨b, 0, none⟩), v.val] w fun e w' => ∃ r : Bool, e = .returned (.bool r) ∧ WQ u.heap.size b l n d Ex.tx w' r (wrX x.ex n d l.length) ∧ Wk u.heap.size b w w'

def WOpd (u : World) (b : Nat) (x : GX) : Prop := ∀ (w : World) (v : EV) (least : Nat) (l : List UInt8) (n d : Nat), GV u 0 u.heap.size x v → Below u.heap.size u w → WB w u.heap.size b l n d → d ≤ 20 → n ≤ 16384 → l.length ≤ 16384 →
  Calls Tryz.prog 48 #[.pointer (some ⟨b, 0, none⟩), v.val, .int .i64 (least : Int)] w fun e w' => ∃ r : Bool, e = .returned (.bool r) ∧ WQ u.heap.size b l n d (fun e => par (pb x least) e.tx) w' r (wrP (pb x least) x.ex n d l.length) ∧ Wk u.heap.size b w w'

/-- The writer within a call whose parameter lies in a box. -/
structure WAt (u : World) (b g1 : Nat) (v : EV) (w0 w : World) (l : List UInt8) (n d : Nat) : Prop where
  bl : Below u.heap.size u w
  wb : WB w u.heap.size b l n d
  xp : XpB w g1 v
  wk : Wk u.heap.size b w0 w

section
variable {u w0 w w' : World} {b g1 : Nat} {v : EV} {l l' : List UInt8} {n n' d d' : Nat}
theorem WAt.go (h : WAt u b g1 v w0 w l n d) (hn : g1 ≠ b) (hk : Wk u.heap.size b w w') (hw : WB w' u.heap.size b l' n' d') : WAt u b g1 v w0 w' l' n' d' :=
  ⟨h.bl.trans hk.below, hw, h.xp.wk hk hn, h.wk.trans hk⟩
theorem WAt.below (h : WAt u b g1 v w0 w l n d) (hn : g1 ≠ b) (hb : Below w.heap.size w w') : WAt u b g1 v w0 w' l n d :=
  h.go hn (Wk.of h.bl.size hb) (h.wb.below hb)
theorem WAt.alloc (h : WAt u b g1 v w0 w l n d) (hn : g1 ≠ b) (o : Obj) : WAt u b g1 v w0 (w.alloc o) l n d :=
  h.below hn ((Below.refl _ w).alloc (Nat.le_refl _) o)
theorem WAt.new (hb : Below u.heap.size u w) (hw : WB w u.heap.size b l n d) : WAt u b w.heap.size v w (w.alloc (.cells #[.int .i64 v.kind, .int .i64 v.num, .string v.name, .int .i64 v.op, .slice v.A v.len v.cap, .int .i64 v.p] 24)) l n d :=
  ⟨hb.alloc hb.size _, hw.alloc _, XpB.new w v, Wk.alloc hb.size _⟩
end

theorem WQ.no {B b : Nat} {l : List UInt8} {n d : Nat} {t : Ex → List UInt8} {w' : World} {y : Option Ex} (h : y = none) : WQ B b l n d t w' false y := .inl ⟨rfl, h⟩
theorem WQ.yes {B b : Nat} {l l' : List UInt8} {n n' d : Nat} {t : Ex → List UInt8} {w' : World} {y : Option Ex} (e : Ex) (h : y = some e) (hw : WB w' B b l' n' d) (hl : l' = l ++ t e) (hn : n' = n + e.size) : WQ B b l n d t w' true y := .inr ⟨rfl, e, h, by rw [← hl, ← hn]; exact hw⟩

theorem par_tt (s : List UInt8) : par true s = 40 :: (s ++ [41]) := rfl
theorem par_false (s : List UInt8) : par false s = s := rfl

theorem WQ.not {B b : Nat} {l : List UInt8} {n d : Nat} {w' : World} {r : Bool} {x : Option Ex} {L : Nat} (h : WQ B b l n d Ex.tx w' r (wrX x n d L)) : WQ B b l n d (fun e => par false e.tx) w' r (wrP false x n d L) := by
  rw [wrP_not]
  rcases h with h | ⟨h1, e, h2, h3⟩
  · exact .inl h
  · refine .inr ⟨h1, e, h2, ?_⟩
    show WB w' B b (l ++ par false e.tx) (n + e.size) d
    rw [par_false]
    exact h3

set_option maxHeartbeats 1600000 in
set_option maxRecDepth 20000 in
theorem operand_any (u : World) (b : Nat) (x : GX) (h : WExp u b x) : WOpd u b x := by
  intro w v least l n d hg hbl hwb hd hn hl
  have HE := Lib.hid (fun (W : World) (l : List UInt8) (n d : Nat) (bl : Below u.heap.size u W) (wb : WB W u.heap.size b l n d) (hd : d ≤ 20) (hn : n ≤ 16384) (hl : l.length ≤ 16384) => h W v l n d hg bl wb hd hn hl)
  obtain ⟨g1, hg1⟩ : ∃ g1, g1 = w.heap.size := ⟨_, rfl⟩
  obtain ⟨W0, hW0⟩ : ∃ W0, W0 = w.alloc (.cells #[.int .i64 v.kind, .int .i64 v.num, .string v.name, .int .i64 v.op, .slice v.A v.len v.cap, .int .i64 v.p] 24) := ⟨_, rfl⟩
  have HA : Hid (WAt u b g1 v w W0 l n d) := by rw [hW0, hg1]; exact WAt.new hbl hwb
  have hn1 : g1 ≠ b := by have := hwb.lt; omega
  have hkind := hg.out.1
  have hop := hg.out.2.2.2.1
  obtain ⟨k, num, S, op, A, len, cap, p⟩ := v
  simp only at hkind hop
  obtain ⟨c, hc⟩ : ∃ c, pb x least = c := ⟨_, rfl⟩
  have HPB : Hid (((k == 5) && !decide (least ≤ bnd op)) = c) := by
    show _ = _
    rw [← hc, hkind, hop]; rfl
  rw [hc]
  obtain ⟨y, hy⟩ : ∃ y, x.ex = y := ⟨_, rfl⟩
  rw [hy] at HE ⊢
  simp only [EV.val] at HE ⊢
  have HN1 := Lib.hid hn1
  have HD := Lib.hid (And.intro hd (And.intro hn hl))
  have HBI := Lib.hid (binding_any op W0)
  have z0 := HA.out.xp.c0
  have z1 := HA.out.xp.c1
  have z2 := HA.out.xp.c2
  have z3 := HA.out.xp.c3
  have z4 := HA.out.xp.c4
  have z5 := HA.out.xp.c5
  simp only at z0 z1 z2 z3 z4 z5 hW0
  clear h hg hbl hwb hd hn hl hkind hop hn1 hc hy
  by_cases h5 : (k == 5) = true
  · obtain rfl : k = 5 := eq_of_beq h5
    by_cases hle : least ≤ bnd op
    · have hle' : (least : Int) ≤ (bnd op : Nat) := by omega
      have HC := Lib.hid (HE.out W0 l n d HA.out.bl HA.out.wb HD.out.1 HD.out.2.1 HD.out.2.2)
      obtain rfl : c = false := by rw [← HPB.out, decide_eq_true hle]; simp
      have HLE := Lib.hid hle'
      obtain ⟨q, hq⟩ : ∃ q : Int, ((bnd op : Nat) : Int) = q := ⟨_, rfl⟩
      rw [hq] at hle' HBI
      clear HPB hle hq HLE h5
      go_enter Tryz.func48, Tryz.ntmps48
      go_upto_region 1 with fail
      rw [← hW0, ← hg1]
      clear hW0 hg1
      go_wp2_with fail
      refine HBI.out.mono ?_
      rintro e w1 ⟨rfl, rfl⟩
      go_wp2_with fail
      refine HC.out.mono ?_
      rintro e w2 ⟨r, rfl, hq, hk⟩
      go_wp2_with fail
      go_ret
      exact ⟨r, rfl, hq.not, HA.out.wk.trans hk⟩
    · have hle' : ¬ (least : Int) ≤ (bnd op : Nat) := by omega
      obtain rfl : c = true := by rw [← HPB.out, decide_eq_false hle, h5]; rfl
      have HPR := Lib.hid (wr_par y n d l.length)
      have HEN : Hid _ := Lib.hid (enter_any W0 u.heap.size b l n d ⟨#[40]⟩ HA.out.wb (by have := HD.out.1; omega) (by decide) (by have := HD.out.2.2; omega) HA.out.bl.size)
      have e40 : (⟨#[40]⟩ : ByteArray).data.toList = [40] := rfl
      rw [e40] at HEN
      obtain ⟨c1, hc1⟩ : ∃ c1, decide (d + 1 ≤ 20 ∧ (l ++ ([40] : List UInt8)).length ≤ 16384) = c1 := ⟨_, rfl⟩
      rw [hc1] at HEN
      have HC1 := Lib.hid hc1
      obtain ⟨q, hq⟩ : ∃ q : Int, ((bnd op : Nat) : Int) = q := ⟨_, rfl⟩
      rw [hq] at hle' HBI
      clear HPB hle hq hc1 e40 h5
      go_enter Tryz.func48, Tryz.ntmps48
      go_upto_region 1 with fail
      rw [← hW0, ← hg1]
      clear hW0 hg1
      go_wp2_with fail
      refine HBI.out.mono ?_
      rintro e w1 ⟨rfl, rfl⟩
      go_wp2_with fail
      refine HEN.out.mono ?_
      rintro e w2 ⟨rfl, hw, hk⟩
      have HW := Lib.hid hw
      have HK := Lib.hid hk
      clear hw hk HEN z0 z1 z2 z3 z4 z5 HBI
      cases c1
      · go_wp2_with fail
        go_ret
        refine ⟨false, rfl, WQ.no (HPR.out.1 (fun h => ?_)), HA.out.wk.trans HK.out⟩
        have := of_decide_eq_false HC1.out
        rw [List.length_append, List.length_singleton] at this
        exact this h
      · have HC2 := Lib.hid (of_decide_eq_true HC1.out)
        rw [List.length_append, List.length_singleton] at HC2
        have HA1 := Lib.hid (HA.out.go HN1.out HK.out (HW.out HC2.out.1))
        have HC := Lib.hid (HE.out w2 (l ++ [40]) n (d + 1) HA1.out.bl HA1.out.wb HC2.out.1 HD.out.2.1 (by rw [List.length_append, List.length_singleton]; exact HC2.out.2))
        rw [List.length_append, List.length_singleton] at HC
        have z0 := HA1.out.xp.c0
        have z1 := HA1.out.xp.c1
        have z2 := HA1.out.xp.c2
        have z3 := HA1.out.xp.c3
        have z4 := HA1.out.xp.c4
        have z5 := HA1.out.xp.c5
        simp only at z0 z1 z2 z3 z4 z5
        clear HA HK HW
        go_wp2_with fail
        refine HC.out.mono ?_
        rintro e w3 ⟨r, rfl, hq, hk⟩
        have HQ := Lib.hid hq
        have HK := Lib.hid hk
        clear hq hk HC z0 z1 z2 z3 z4 z5
        cases r
        · have HNO : Hid (wrX y n (d + 1) (l.length + 1) = none) := by
            rcases HQ.out with ⟨_, h⟩ | ⟨h, _⟩
            · exact h
            · cases h
          go_wp2_with fail
          go_ret
          exact ⟨false, rfl, WQ.no (HPR.out.2.1 HNO.out), HA1.out.wk.trans HK.out⟩
        · obtain ⟨e, he, hwb⟩ : ∃ e, wrX y n (d + 1) (l.length + 1) = some e ∧ WB w3 u.heap.size b (l ++ ([40] : List UInt8) ++ e.tx) (n + e.size) (d + 1) := by
            rcases HQ.out with ⟨h, _⟩ | ⟨_, h⟩
            · cases h
            · exact h
          have HS := Lib.hid (wrX_some he)
          have HEE := Lib.hid he
          have HA2 := Lib.hid (HA1.out.go HN1.out HK.out hwb)
          have HL : Hid _ := Lib.hid (leave_any w3 u.heap.size b _ _ d ⟨#[41]⟩ HA2.out.wb (by have := HD.out.1; omega) (by decide) (by have := HS.out.2.2.1; simp only [List.length_append, List.length_singleton]; omega) HA2.out.bl.size)
          have e41 : (⟨#[41]⟩ : ByteArray).data.toList = [41] := rfl
          rw [e41] at HL
          obtain ⟨c2, hc2⟩ : ∃ c2, decide (List.length (l ++ [40] ++ e.tx ++ [41]) ≤ 16384) = c2 := ⟨_, rfl⟩
          rw [hc2] at HL
          have HC2 := Lib.hid hc2
          clear he hwb HQ HK HA1 e41 hc2
          go_wp2_with fail
          refine HL.out.mono ?_
          rintro _ w4 ⟨rfl, hw, hk⟩
          have HW := Lib.hid hw
          have HK := Lib.hid hk
          clear hw hk HL
          go_wp2_with fail
          go_ret
          refine ⟨c2, rfl, ?_, HA2.out.wk.trans HK.out⟩
          have h1 := HPR.out.2.2 e HEE.out
          have h2 := HC2.out
          have h3 : (l ++ [40] ++ e.tx ++ [41]).length = l.length + 1 + e.tx.length + 1 := by simp only [List.length_append, List.length_singleton]
          rw [h3] at h2
          cases c2
          · exact WQ.no (h1.trans (if_neg (of_decide_eq_false h2)))
          · exact WQ.yes e (h1.trans (if_pos (of_decide_eq_true h2))) HW.out (by rw [par_tt]; simp only [List.append_assoc, List.cons_append, List.nil_append]) rfl
  · have h5' : (k == 5) = false := by simpa using h5
    have h6 : (k != 5) = true := by simpa using h5
    have HC := Lib.hid (HE.out W0 l n d HA.out.bl HA.out.wb HD.out.1 HD.out.2.1 HD.out.2.2)
    obtain rfl : c = false := by rw [← HPB.out, h5']; rfl
    clear HPB h5 HBI
    go_enter Tryz.func48, Tryz.ntmps48
    go_upto_region 1 with fail
    rw [← hW0, ← hg1]
    clear hW0 hg1
    go_wp2_with fail
    refine HC.out.mono ?_
    rintro e w2 ⟨r, rfl, hq, hk⟩
    go_wp2_with fail
    go_ret
    exact ⟨r, rfl, hq.not, HA.out.wk.trans hk⟩

end Go.Proofs.YthgodhojhajahaaGreatDoor
