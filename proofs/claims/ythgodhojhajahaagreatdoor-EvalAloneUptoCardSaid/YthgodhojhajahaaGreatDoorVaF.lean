/-
  The program's evaluator: the value of any tree.
-/
import Derived.Test.YthgodhojhajahaaGreatDoorVaE
namespace Go.Proofs.YthgodhojhajahaaGreatDoor
open Go.RowKit

/-- What the evaluator answers at a tree. -/
def EVl (x : GX) : Prop := ∀ (w : World) (g : Nat) (v : EV) (e : NV) (xs zs : List ByteArray) (ns : List Int), EnB 50 w g e → NvIs w e xs zs ns → GV w 0 w.heap.size x v →
  Calls Tryz.prog 19 #[.pointer (some ⟨g, 0, none⟩), v.val] w fun r w' => r = .returned (.tuple #[.int .i64 (evP (envP xs zs ns) x).1, .int .i64 (evP (envP xs zs ns) x).2]) ∧ Below w.heap.size w w'

/-- A box for a parameter. -/
theorem box_new (w : World) (v : EV) : ∃ (W : World) (g : Nat), W = w.alloc (.cells #[.int .i64 v.kind, .int .i64 v.num, .string v.name, .int .i64 v.op, .slice v.A v.len v.cap, .int .i64 v.p] 24) ∧ g = w.heap.size ∧ Hid (XpB W g v) ∧ Hid (Below w.heap.size w W) :=
  ⟨_, _, rfl, rfl, XpB.new w v, (Below.refl _ w).alloc (Nat.le_refl _) _⟩

/-- The part at a place. -/
theorem GV.part {w : World} {lo hi : Nat} {x : GX} {v : EV} (h : GV w lo hi x v) {i : Nat} {a : GX} (ha : x.subs[i]? = some a) : ∃ go o va, v.A = some ⟨go, o, none⟩ ∧ go < hi ∧ EvAt w go (o + i * 6) va ∧ GV w lo hi a va := by
  obtain ⟨_, _, _, _, _, _, _, _, h9⟩ := h.out
  obtain ⟨go, o, va, h1, _, h2, h3, h4⟩ := h9.get i a ha
  rw [Nat.zero_add] at h3
  exact ⟨go, o, va, h1, h2, h3, h4⟩

theorem GV.leneq {w : World} {lo hi : Nat} {x : GX} {v : EV} (h : GV w lo hi x v) : v.len = x.subs.length := h.out.2.2.2.2.2.1
theorem GV.lecap {w : World} {lo hi : Nat} {x : GX} {v : EV} (h : GV w lo hi x v) : v.len ≤ v.cap := h.out.2.2.2.2.2.2.1

/-- Of an operand. -/
def oneP (op : Int) (a : Int × Int) : Int × Int := if a.2 = 0 then (oneN op a.1, oneE op) else (0, a.2)
/-- Of two. -/
def bothP (op : Int) (a b : Int × Int) : Int × Int :=
  if a.2 = 0 then (if op = 12 ∧ a.1 = 0 then (0, 0) else if op = 13 ∧ a.1 ≠ 0 then (1, 0) else if b.2 = 0 then (doN op a.1 b.1, doE op b.1) else (0, b.2)) else (0, a.2)

set_option maxHeartbeats 800000 in
set_option maxRecDepth 20000 in
theorem one_walk (x a : GX) (hs : x.subs = [a]) (ih : EVl a) (w : World) (g : Nat) (v : EV) (e : NV) (xs zs : List ByteArray) (ns : List Int) (hE : EnB 50 w g e) (hN : NvIs w e xs zs ns) (hx : GV w 0 w.heap.size x v) :
    Calls Tryz.prog 33 #[.pointer (some ⟨g, 0, none⟩), v.val] w fun r w' => r = .returned (.tuple #[.int .i64 (oneP v.op (evP (envP xs zs ns) a)).1, .int .i64 (oneP v.op (evP (envP xs zs ns) a)).2]) ∧ Below w.heap.size w w' := by
  obtain ⟨W0, g1, hW0, hg1, HX, HB⟩ := box_new w v
  obtain ⟨go, o, va, hA, hgo, hev, hgv⟩ := hx.part (i := 0) (a := a) (by rw [hs]; rfl)
  have hlen : v.len = 1 := by rw [hx.leneq, hs]; rfl
  have hcap := hx.lecap
  have eo : o + 0 * 6 = o := by omega
  rw [eo] at hev
  obtain ⟨x0, x1, x2, x3, x4, x5⟩ := hev.same (HB.out.block go hgo)
  have HC := Lib.hid (ih W0 g va e xs zs ns (hE.below HB.out) (hN.below HB.out) ((GV.below hgv HB.out (Nat.le_refl _)).mono (Nat.le_refl _) HB.out.size))
  obtain ⟨⟨N, E⟩, hNE⟩ : ∃ R, evP (envP xs zs ns) a = R := ⟨_, rfl⟩
  rw [hNE] at HC ⊢
  have HO := Lib.hid (fun (W : World) => one_any v.op N W)
  clear ih hE hN hx hgo hgv hNE hs hev eo
  obtain ⟨k, num, S, op, A, len, cap, p⟩ := v
  simp only [EV.val] at hW0 hlen hA hcap HO HC ⊢
  subst hlen hA
  have z3 := HX.out.c3
  have z4 := HX.out.c4
  simp only at z3 z4
  by_cases c : E = 0
  · subst c
    go_enter Tryz.func33, Tryz.ntmps33
    go_upto_region 1 with fail
    rw [← hW0, ← hg1]
    clear hW0 hg1
    go_wp2_with fail
    refine HC.out.mono ?_
    rintro e w2 ⟨rfl, hb⟩
    have HB2 := Lib.hid (HB.out.trans (hb.mono HB.out.size))
    have HX2 := Lib.hid (HX.out.below hb)
    clear z3 z4 x0 x1 x2 x3 x4 x5 hb HX HC
    have z3 := HX2.out.c3
    simp only at z3
    go_wp2_with fail
    refine (HO.out _).mono ?_
    rintro e w3 ⟨rfl, rfl⟩
    go_wp2_with fail
    go_ret2
    exact ⟨rfl, HB2.out⟩
  · have c' : (E != 0) = true := by simp [bne, c]
    have hp : oneP op (N, E) = (0, E) := if_neg c
    rw [hp]
    have HCC := Lib.hid c
    clear c hp
    go_enter Tryz.func33, Tryz.ntmps33
    go_upto_region 1 with fail
    rw [← hW0, ← hg1]
    clear hW0 hg1
    go_wp2_with fail
    refine HC.out.mono ?_
    rintro e w2 ⟨rfl, hb⟩
    have HB2 := Lib.hid (HB.out.trans (hb.mono HB.out.size))
    clear z3 z4 x0 x1 x2 x3 x4 x5 hb HX HC
    go_wp2_with fail
    go_ret2
    exact ⟨rfl, HB2.out⟩

set_option maxHeartbeats 1600000 in
set_option maxRecDepth 20000 in
theorem both_walk (x a b : GX) (hs : x.subs = [a, b]) (ih : EVl a) (ih2 : EVl b) (w : World) (g : Nat) (v : EV) (e : NV) (xs zs : List ByteArray) (ns : List Int) (hE : EnB 50 w g e) (hN : NvIs w e xs zs ns) (hx : GV w 0 w.heap.size x v) :
    Calls Tryz.prog 34 #[.pointer (some ⟨g, 0, none⟩), v.val] w fun r w' => r = .returned (.tuple #[.int .i64 (bothP v.op (evP (envP xs zs ns) a) (evP (envP xs zs ns) b)).1, .int .i64 (bothP v.op (evP (envP xs zs ns) a) (evP (envP xs zs ns) b)).2]) ∧ Below w.heap.size w w' := by
  obtain ⟨W0, g1, hW0, hg1, HX, HB⟩ := box_new w v
  obtain ⟨go, o, va, hA, hgo, hev, hgv⟩ := hx.part (i := 0) (a := a) (by rw [hs]; rfl)
  obtain ⟨go', o', vb, hA', hgo', hev', hgv'⟩ := hx.part (i := 1) (a := b) (by rw [hs]; rfl)
  have hlen : v.len = 2 := by rw [hx.leneq, hs]; rfl
  have hcap := hx.lecap
  obtain ⟨rfl, rfl⟩ : go' = go ∧ o' = o := by
    rw [hA] at hA'
    injection hA' with h
    injection h with h1 h2
    exact ⟨h1.symm, h2.symm⟩
  have eo : o' + 0 * 6 = o' := by omega
  have eo' : o' + 1 * 6 = o' + 6 := by omega
  rw [eo] at hev
  rw [eo'] at hev'
  obtain ⟨x0, x1, x2, x3, x4, x5⟩ := hev.same (HB.out.block go' hgo)
  have HC := Lib.hid (ih W0 g va e xs zs ns (hE.below HB.out) (hN.below HB.out) ((GV.below hgv HB.out (Nat.le_refl _)).mono (Nat.le_refl _) HB.out.size))
  have HC2 := Lib.hid (fun (W : World) (hb : Below w.heap.size w W) => ih2 W g vb e xs zs ns (hE.below hb) (hN.below hb) ((GV.below hgv' hb (Nat.le_refl _)).mono (Nat.le_refl _) hb.size))
  have HEV := Lib.hid (fun (W : World) (hb : Below w.heap.size w W) => hev'.same (hb.block go' hgo))
  obtain ⟨⟨N, E⟩, hNE⟩ : ∃ R, evP (envP xs zs ns) a = R := ⟨_, rfl⟩
  obtain ⟨⟨M, F⟩, hMF⟩ : ∃ R, evP (envP xs zs ns) b = R := ⟨_, rfl⟩
  rw [hNE] at HC ⊢
  rw [hMF] at HC2 ⊢
  have HO := Lib.hid (fun (W : World) => do_any v.op N M W)
  obtain ⟨⟨Q, H⟩, hQ⟩ : ∃ R, bothP v.op (N, E) (M, F) = R := ⟨_, rfl⟩
  rw [hQ]
  have HQ := Lib.hid hQ
  clear ih ih2 hE hN hx hgo hgv hgv' hgo' hNE hMF hs hev hev' eo eo' hA' hQ
  obtain ⟨k, num, S, op, A, len, cap, p⟩ := v
  simp only [EV.val] at hW0 hlen hA hcap HO HC HC2 HQ ⊢
  subst hlen hA
  have z3 := HX.out.c3
  have z4 := HX.out.c4
  simp only at z3 z4
  go_enter Tryz.func34, Tryz.ntmps34
  go_upto_region 1 with fail
  rw [← hW0, ← hg1]
  clear hW0 hg1
  go_wp2_with fail
  refine HC.out.mono ?_
  rintro e w2 ⟨rfl, hb⟩
  have HB2 := Lib.hid (HB.out.trans (hb.mono HB.out.size))
  have HX2 := Lib.hid (HX.out.below hb)
  clear z3 z4 x0 x1 x2 x3 x4 x5 hb HX HC HB
  have z3 := HX2.out.c3
  have z4 := HX2.out.c4
  simp only at z3 z4
  by_cases c : E = 0
  · subst c
    have HC3 := Lib.hid (HC2.out w2 HB2.out)
    by_cases c1 : op = 12 ∧ N = 0
    · obtain ⟨rfl, rfl⟩ := c1
      obtain ⟨rfl, rfl⟩ : Q = 0 ∧ H = 0 := by
        have := HQ.out
        unfold bothP at this
        rw [if_pos rfl, if_pos ⟨rfl, rfl⟩] at this
        injection this with h1 h2
        exact ⟨h1.symm, h2.symm⟩
      go_wp2_with fail
      go_ret2
      exact ⟨rfl, HB2.out⟩
    · by_cases c2 : op = 13 ∧ N ≠ 0
      · obtain ⟨rfl, hn0⟩ := c2
        obtain ⟨rfl, rfl⟩ : Q = 1 ∧ H = 0 := by
          have := HQ.out
          unfold bothP at this
          rw [if_pos rfl, if_neg (fun h => by cases h.1), if_pos ⟨rfl, hn0⟩] at this
          injection this with h1 h2
          exact ⟨h1.symm, h2.symm⟩
        have q1 : (N != 0) = true := by simp [bne, hn0]
        go_wp2_with fail
        go_ret2
        exact ⟨rfl, HB2.out⟩
      · have hq := HQ.out
        unfold bothP at hq
        rw [if_pos rfl, if_neg c1, if_neg c2] at hq
        have HQ2 := Lib.hid hq
        have hcase : (op = 12 ∧ (N == 0) = false) ∨ (op = 13 ∧ (N != 0) = false) ∨ ((op == 12) = false ∧ (op == 13) = false) := by
          by_cases d1 : op = 12
          · exact .inl ⟨d1, by simp only [beq_eq_false_iff_ne, ne_eq]; exact fun h => c1 ⟨d1, h⟩⟩
          · by_cases d2 : op = 13
            · refine .inr (.inl ⟨d2, ?_⟩)
              have hn : N = 0 := Decidable.byContradiction fun h => c2 ⟨d2, h⟩
              rw [hn]; rfl
            · exact .inr (.inr ⟨by simpa using d1, by simpa using d2⟩)
        obtain ⟨y0, y1, y2, y3, y4, y5⟩ := HEV.out w2 HB2.out
        clear hq c1 c2 HQ HEV HC2
        rcases hcase with ⟨rfl, q1⟩ | ⟨rfl, q1⟩ | ⟨q1, q2⟩
        all_goals
          go_wp2_with fail
          refine HC3.out.mono ?_
          rintro e w3 ⟨rfl, hb⟩
          have HB3 := Lib.hid (HB2.out.trans (hb.mono HB2.out.size))
          have HX3 := Lib.hid (HX2.out.below hb)
          clear hb HC3 z3 z4 y0 y1 y2 y3 y4 y5
          have z3 := HX3.out.c3
          simp only at z3
          by_cases cF : F = 0
          · subst cF
            have hq := HQ2.out
            rw [if_pos rfl] at hq
            injection hq with h1 h2
            subst h1 h2
            go_wp2_with fail
            refine (HO.out _).mono ?_
            rintro e w4 ⟨rfl, rfl⟩
            go_wp2_with fail
            go_ret2
            exact ⟨rfl, HB3.out⟩
          · have cF' : (F != 0) = true := by simp [bne, cF]
            have hq := HQ2.out
            rw [if_neg cF] at hq
            injection hq with h1 h2
            subst h1 h2
            have HCC := Lib.hid cF
            clear cF
            go_wp2_with fail
            go_ret2
            exact ⟨rfl, HB3.out⟩
  · have c' : (E != 0) = true := by simp [bne, c]
    obtain ⟨rfl, rfl⟩ : Q = 0 ∧ H = E := by
      have := HQ.out
      unfold bothP at this
      rw [if_neg c] at this
      injection this with h1 h2
      exact ⟨h1.symm, h2.symm⟩
    have HCC := Lib.hid c
    clear c
    go_wp2_with fail
    go_ret2
    exact ⟨rfl, HB2.out⟩

theorem evsP_one (e : EnvP) (a : GX) : evsP e [a] = [evP e a] := by rw [evsP_cons, evsP_nil]
theorem evsP_two (e : EnvP) (a b : GX) : evsP e [a, b] = [evP e a, evP e b] := by rw [evsP_cons, evsP_one]

/-- The ways of a node. -/
theorem node_ways (e : EnvP) (k n : Int) (s : List UInt8) (o : Int) (l : List GX) :
    (k = 1 ∧ l = [] ∧ nodeP e k n s o (evsP e l) = (n, 0)) ∨ (k = 2 ∧ l = [] ∧ nodeP e k n s o (evsP e l) = lookP s e.names e.nums) ∨ (k = 3 ∧ l = [] ∧ nodeP e k n s o (evsP e l) = (if s ∈ e.act then 1 else 0, 0)) ∨
    (∃ a, k = 4 ∧ l = [a] ∧ nodeP e k n s o (evsP e l) = oneP o (evP e a)) ∨ (∃ a b, k = 5 ∧ l = [a, b] ∧ nodeP e k n s o (evsP e l) = bothP o (evP e a) (evP e b)) ∨
    (nodeP e k n s o (evsP e l) = (0, 22) ∧ ((k = 1 ∧ l.length ≠ 0) ∨ (k = 2 ∧ l.length ≠ 0) ∨ (k = 3 ∧ l.length ≠ 0) ∨ (k = 4 ∧ l.length ≠ 1) ∨ (k = 5 ∧ l.length ≠ 2) ∨ (k ≠ 1 ∧ k ≠ 2 ∧ k ≠ 3 ∧ k ≠ 4 ∧ k ≠ 5))) := by
  have other : ∀ p : Prop, (k = 1 → p) → (k = 2 → p) → (k = 3 → p) → (k = 4 → p) → (k = 5 → p) → ((k ≠ 1 ∧ k ≠ 2 ∧ k ≠ 3 ∧ k ≠ 4 ∧ k ≠ 5) → p) → p := by
    intro p h1 h2 h3 h4 h5 h6
    by_cases c1 : k = 1
    · exact h1 c1
    · by_cases c2 : k = 2
      · exact h2 c2
      · by_cases c3 : k = 3
        · exact h3 c3
        · by_cases c4 : k = 4
          · exact h4 c4
          · by_cases c5 : k = 5
            · exact h5 c5
            · exact h6 ⟨c1, c2, c3, c4, c5⟩
  match l with
  | [] =>
    rw [evsP_nil]
    refine other _ ?_ ?_ ?_ ?_ ?_ ?_
    · rintro rfl; exact .inl ⟨rfl, rfl, rfl⟩
    · rintro rfl; exact .inr (.inl ⟨rfl, rfl, rfl⟩)
    · rintro rfl; exact .inr (.inr (.inl ⟨rfl, rfl, rfl⟩))
    · rintro rfl; exact .inr (.inr (.inr (.inr (.inr ⟨rfl, .inr (.inr (.inr (.inl ⟨rfl, by decide⟩)))⟩))))
    · rintro rfl; exact .inr (.inr (.inr (.inr (.inr ⟨rfl, .inr (.inr (.inr (.inr (.inl ⟨rfl, by decide⟩))))⟩))))
    · rintro ⟨c1, c2, c3, c4, c5⟩
      refine .inr (.inr (.inr (.inr (.inr ⟨?_, .inr (.inr (.inr (.inr (.inr ⟨c1, c2, c3, c4, c5⟩))))⟩))))
      show (if k = 1 ∨ k = 2 ∨ k = 3 then leafP e k n s else (0, 22)) = _
      rw [if_neg (by omega)]
  | [a] =>
    rw [evsP_one]
    by_cases c4 : k = 4
    · exact .inr (.inr (.inr (.inl ⟨a, c4, rfl, by rw [c4]; rfl⟩)))
    · refine .inr (.inr (.inr (.inr (.inr ⟨?_, ?_⟩))))
      · show (if k = 4 then _ else (0, 22)) = _
        rw [if_neg c4]
      · refine other _ (fun h => .inl ⟨h, by simp⟩) (fun h => .inr (.inl ⟨h, by simp⟩)) (fun h => .inr (.inr (.inl ⟨h, by simp⟩))) (fun h => absurd h c4) (fun h => .inr (.inr (.inr (.inr (.inl ⟨h, by simp⟩))))) (fun h => .inr (.inr (.inr (.inr (.inr h)))))
  | [a, b] =>
    rw [evsP_two]
    by_cases c5 : k = 5
    · exact .inr (.inr (.inr (.inr (.inl ⟨a, b, c5, rfl, by rw [c5]; rfl⟩))))
    · refine .inr (.inr (.inr (.inr (.inr ⟨?_, ?_⟩))))
      · show (if k = 5 then _ else (0, 22)) = _
        rw [if_neg c5]
      · refine other _ (fun h => .inl ⟨h, by simp⟩) (fun h => .inr (.inl ⟨h, by simp⟩)) (fun h => .inr (.inr (.inl ⟨h, by simp⟩))) (fun h => .inr (.inr (.inr (.inl ⟨h, by simp⟩)))) (fun h => absurd h c5) (fun h => .inr (.inr (.inr (.inr (.inr h)))))
  | a :: b :: c :: r =>
    refine .inr (.inr (.inr (.inr (.inr ⟨?_, ?_⟩))))
    · rw [evsP_cons, evsP_cons, evsP_cons]; rfl
    · refine other _ (fun h => .inl ⟨h, by simp⟩) (fun h => .inr (.inl ⟨h, by simp⟩)) (fun h => .inr (.inr (.inl ⟨h, by simp⟩))) (fun h => .inr (.inr (.inr (.inl ⟨h, by simp⟩)))) (fun h => .inr (.inr (.inr (.inr (.inl ⟨h, by simp⟩))))) (fun h => .inr (.inr (.inr (.inr (.inr h)))))

theorem ne_beq {k m : Int} (h : k ≠ m) : (k == m) = false := by simpa using h

set_option maxHeartbeats 3200000 in
set_option maxRecDepth 20000 in
theorem value_step (x : GX) (ih : ∀ (i : Nat) (z : GX), x.subs[i]? = some z → EVl z) : EVl x := by
  intro w g v e xs zs ns hE hN hx
  obtain ⟨W0, g1, hW0, hg1, HX, HB⟩ := box_new w v
  have hE0 := hE.below HB.out
  have hN0 := hN.below HB.out
  have hG0 := (GV.below hx HB.out (Nat.le_refl _)).mono (Nat.le_refl _) HB.out.size
  have HP : evP (envP xs zs ns) x = nodeP (envP xs zs ns) v.kind v.num v.name.data.toList v.op (evsP (envP xs zs ns) x.subs) := by
    obtain ⟨a1, a2, a3, a4, _, _, _, _, _⟩ := hx.out
    rw [a1, a2, a3, a4]
    obtain ⟨k, n, s, o, l, p⟩ := x
    exact evP_mk _ k n s o l p
  have hlen := hx.leneq
  have HV := Lib.hid (variable_any W0 g e xs zs ns v.name hE0 hN0)
  have HI := Lib.hid (in_any W0 g e xs zs ns v.name hE0 hN0)
  have HONE := Lib.hid (fun a (h : x.subs = [a]) => one_walk x a h (ih 0 a (by rw [h]; rfl)) W0 g v e xs zs ns hE0 hN0 hG0)
  have HBOTH := Lib.hid (fun a b (h : x.subs = [a, b]) => both_walk x a b h (ih 0 a (by rw [h]; rfl)) (ih 1 b (by rw [h]; rfl)) W0 g v e xs zs ns hE0 hN0 hG0)
  have c := node_ways (envP xs zs ns) v.kind v.num v.name.data.toList v.op x.subs
  rw [← HP, ← hlen] at c
  obtain ⟨⟨N, E⟩, hNE⟩ : ∃ R, evP (envP xs zs ns) x = R := ⟨_, rfl⟩
  rw [hNE] at c ⊢
  clear hNE HP ih hE hN hx hE0 hN0 hG0
  obtain ⟨sb, hsb⟩ : ∃ sb, x.subs = sb := ⟨_, rfl⟩
  rw [hsb] at c hlen HONE HBOTH
  clear hsb
  have HLEN := Lib.hid hlen
  clear hlen
  obtain ⟨k, num, S, op, A, len, cap, p⟩ := v
  simp only [EV.val] at hW0 HV HI HONE HBOTH c HLEN ⊢
  have z0 := HX.out.c0
  have z1 := HX.out.c1
  have z2 := HX.out.c2
  have z3 := HX.out.c3
  have z4 := HX.out.c4
  have z5 := HX.out.c5
  simp only at z0 z1 z2 z3 z4 z5
  go_enter Tryz.func19, Tryz.ntmps19
  go_upto_region 1 with fail
  rw [← hW0, ← hg1]
  clear hW0 hg1
  rcases c with ⟨rfl, rfl, hr⟩ | ⟨rfl, rfl, hr⟩ | ⟨rfl, rfl, hr⟩ | ⟨a, rfl, rfl, hr⟩ | ⟨a, b, rfl, rfl, hr⟩ | ⟨hr, hc⟩
  · obtain rfl : len = 0 := HLEN.out
    injection hr with h1 h2
    subst h1 h2
    go_wp2_with fail
    go_ret2
    exact ⟨rfl, HB.out⟩
  · obtain rfl : len = 0 := HLEN.out
    have hr' : lookP S.data.toList (bstr xs) ns = (N, E) := hr.symm
    rw [hr'] at HV
    clear hr hr'
    go_wp2_with fail
    refine HV.out.mono ?_
    rintro e w2 ⟨rfl, rfl⟩
    go_wp2_with fail
    go_ret2
    exact ⟨rfl, HB.out⟩
  · obtain rfl : len = 0 := HLEN.out
    injection hr with h1 h2
    have h1' : (if S.data.toList ∈ bstr zs then (1 : Int) else 0) = N := h1.symm
    rw [h1'] at HI
    subst h2
    clear h1 h1'
    go_wp2_with fail
    refine HI.out.mono ?_
    rintro e w2 ⟨rfl, rfl⟩
    go_wp2_with fail
    go_ret2
    exact ⟨rfl, HB.out⟩
  · obtain rfl : len = 1 := HLEN.out
    have HC := Lib.hid (HONE.out a rfl)
    rw [← hr] at HC
    clear hr HONE HBOTH HV HI
    go_wp2_with fail
    refine HC.out.mono ?_
    rintro e w2 ⟨rfl, hb⟩
    have HB2 := Lib.hid (HB.out.trans (hb.mono HB.out.size))
    clear hb HC
    go_wp2_with fail
    go_ret2
    exact ⟨rfl, HB2.out⟩
  · obtain rfl : len = 2 := HLEN.out
    have HC := Lib.hid (HBOTH.out a b rfl)
    rw [← hr] at HC
    clear hr HONE HBOTH HV HI
    go_wp2_with fail
    refine HC.out.mono ?_
    rintro e w2 ⟨rfl, hb⟩
    have HB2 := Lib.hid (HB.out.trans (hb.mono HB.out.size))
    clear hb HC
    go_wp2_with fail
    go_ret2
    exact ⟨rfl, HB2.out⟩
  · injection hr with h1 h2
    subst h1 h2
    clear HONE HBOTH HV HI HLEN
    rcases hc with ⟨rfl, hn⟩ | ⟨rfl, hn⟩ | ⟨rfl, hn⟩ | ⟨rfl, hn⟩ | ⟨rfl, hn⟩ | ⟨n1, n2, n3, n4, n5⟩
    · have q : ((len : Int) == 0) = false := ne_beq (by omega)
      go_wp2_with fail
      go_ret2
      exact ⟨rfl, HB.out⟩
    · have q : ((len : Int) == 0) = false := ne_beq (by omega)
      go_wp2_with fail
      go_ret2
      exact ⟨rfl, HB.out⟩
    · have q : ((len : Int) == 0) = false := ne_beq (by omega)
      go_wp2_with fail
      go_ret2
      exact ⟨rfl, HB.out⟩
    · have q : ((len : Int) == 1) = false := ne_beq (by omega)
      go_wp2_with fail
      go_ret2
      exact ⟨rfl, HB.out⟩
    · have q : ((len : Int) == 2) = false := ne_beq (by omega)
      go_wp2_with fail
      go_ret2
      exact ⟨rfl, HB.out⟩
    · have q1 : (k == 1) = false := ne_beq n1
      have q2 : (k == 2) = false := ne_beq n2
      have q3 : (k == 3) = false := ne_beq n3
      have q4 : (k == 4) = false := ne_beq n4
      have q5 : (k == 5) = false := ne_beq n5
      clear n1 n2 n3 n4 n5
      go_wp2_with fail
      go_ret2
      exact ⟨rfl, HB.out⟩

theorem sub_lt {x z : GX} {i : Nat} (h : x.subs[i]? = some z) : SizeOf.sizeOf z < SizeOf.sizeOf x := by
  obtain ⟨k, n, s, o, l, p⟩ := x
  have h1 := List.sizeOf_lt_of_mem (List.mem_of_getElem? (show l[i]? = some z from h))
  simp only [GX.mk.sizeOf_spec]
  omega

theorem value_all : ∀ (m : Nat) (x : GX), SizeOf.sizeOf x ≤ m → EVl x
  | 0, x, hm => by
    obtain ⟨k, n, s, o, l, p⟩ := x
    simp only [GX.mk.sizeOf_spec] at hm
    omega
  | m + 1, x, hm => value_step x (fun i z hz => value_all m z (by have := sub_lt hz; omega))

theorem value_any (x : GX) : EVl x := value_all _ x (Nat.le_refl _)

end Go.Proofs.YthgodhojhajahaaGreatDoor
