/-
  The document's evaluation: leaf.
-/
import Derived.Test.YthgodhojhajahaaGreatDoorVaS
import Derived.Test.YthgodhojhajahaaGreatDoorCA
import Derived.Deep.QuietTactic
import Derived.BigQuiet
import Derived.StillTailTactics
namespace Go.Proofs.YthgodhojhajahaaGreatDoor
open Go.RowKit

theorem drewN_below6 (w : World) (m : Nat) : Below w.heap.size w (w.drewN m) := ⟨rfl, rfl, rfl, Nat.le_refl _, fun _ _ => rfl⟩

theorem mem_snoc_no {s : List UInt8} {l : List (List UInt8)} {i : Nat} {x : List UInt8} (h : s ∉ l.take i) (hx : l[i]? = some x) (hn : x ≠ s) : s ∉ l.take (i + 1) := by
  rw [List.take_add_one, hx]
  simp only [Option.toList_some, List.mem_append, List.mem_singleton]
  rintro (h' | h')
  · exact h h'
  · exact hn h'.symm

theorem look_cons (s m : List UInt8) (l : List (List UInt8)) (ns : List Int) : lookP s (m :: l) ns = if m = s then (match ns with | n :: _ => (n, 0) | [] => (0, 23)) else lookP s l ns.tail := rfl

theorem look_skip (s : List UInt8) : ∀ (i : Nat) (l : List (List UInt8)) (ns : List Int), s ∉ l.take i → lookP s l ns = lookP s (l.drop i) (ns.drop i)
  | 0, l, ns, _ => by simp
  | i + 1, [], ns, _ => by simp [lookP]
  | i + 1, m :: l, ns, h => by
    rw [List.take_succ_cons, List.mem_cons, not_or] at h
    rw [look_cons, if_neg (fun e => h.1 e.symm), look_skip s i l ns.tail h.2, List.drop_succ_cons]
    congr 1
    cases ns <;> simp

theorem look_none {s : List UInt8} {l : List (List UInt8)} {ns : List Int} (h : s ∉ l) : lookP s l ns = (0, 23) := by
  rw [look_skip s l.length l ns (by rwa [List.take_length]), List.drop_length]
  rfl

theorem look_hit {s : List UInt8} {l : List (List UInt8)} {ns : List Int} {i : Nat} (h : s ∉ l.take i) (hi : l[i]? = some s) : lookP s l ns = match ns[i]? with | some n => (n, 0) | none => (0, 23) := by
  rw [look_skip s i l ns h, drop_at hi, look_cons, if_pos rfl]
  have e : ns[i]? = (ns.drop i)[0]? := by rw [List.getElem?_drop, Nat.add_zero]
  rw [e]
  cases ns.drop i <;> rfl

theorem bstr_get {xs : List ByteArray} {i : Nat} {x : ByteArray} (h : xs[i]? = some x) : (bstr xs)[i]? = some x.data.toList := by
  unfold bstr
  rw [List.getElem?_map, h]
  rfl

theorem bstr_len (xs : List ByteArray) : (bstr xs).length = xs.length := by unfold bstr; rw [List.length_map]

set_option maxHeartbeats 1600000 in
set_option maxRecDepth 20000 in
theorem rleaf_any (w : World) (v : EV) (e : NV) (xs zs : List ByteArray) (ns : List Int) (hN : NvIs w e xs zs ns) :
    Calls Tryz.prog 20 #[v.val, e.val] w fun r w' => r = .returned (.tuple #[.int .i64 (leafP (envP xs zs ns) v.kind v.num v.name.data.toList).1, .int .i64 (leafP (envP xs zs ns) v.kind v.num v.name.data.toList).2]) ∧ Below w.heap.size w w' := by
  obtain ⟨W0, g1, g2, hW0, hg1, hg2, HX, HE, HB⟩ := two_boxes w v e
  have hN0 := hN.below HB.out
  have HNM := Lib.hid hN0.nm
  have HAS := Lib.hid hN0.as_
  have HMS := Lib.hid hN0.ms
  have HNL := Lib.hid hN0.nl
  have HAL := Lib.hid hN0.al
  have HML := Lib.hid hN0.ml
  have HC1 : Hid (e.nL ≤ 9223372036854775807) := by
    have h1 := hN.nc.1
    have h2 := hN.nc.2
    unfold maxLen at h2
    exact Nat.le_trans h1 (by omega)
  have HC2 : Hid (e.aL ≤ 9223372036854775807) := by
    have h1 := hN.ac.1
    have h2 := hN.ac.2
    unfold maxLen at h2
    exact Nat.le_trans h1 (by omega)
  obtain ⟨⟨N, E⟩, hNE⟩ : ∃ R, leafP (envP xs zs ns) v.kind v.num v.name.data.toList = R := ⟨_, rfl⟩
  rw [hNE]
  have HNE := Lib.hid hNE
  clear hNE hN hN0
  obtain ⟨nA, nL, nC, mA, mL, mC, aA, aL, aC⟩ := e
  obtain ⟨k, num, S, op, A, len, cap, p⟩ := v
  simp only [EV.val, NV.val] at hW0 HNE HNM HAS HMS HNL HAL HML HC1 HC2 ⊢
  have z0 := HX.out.c0
  have z1 := HX.out.c1
  have z2 := HX.out.c2
  have y0 := HE.out.c0
  have y1 := HE.out.c1
  have y2 := HE.out.c2
  simp only at z0 z1 z2 y0 y1 y2
  go_enter Tryz.func20, Tryz.ntmps20
  go_upto_region 1 with fail
  rw [← hW0, ← hg2, ← hg1]
  clear hW0 hg1 hg2
  by_cases c1 : k = 1
  · subst c1
    obtain ⟨rfl, rfl⟩ : num = N ∧ 0 = E := by
      have := HNE.out
      injection this with h1 h2
      exact ⟨h1, h2⟩
    go_wp2_with fail
    go_ret2
    exact ⟨rfl, HB.out⟩
  · have q1 : (k == 1) = false := ne_beq c1
    by_cases c3 : k = 3
    · subst c3
      have HR : Hid ((if S.data.toList ∈ bstr zs then 1 else 0, 0) = (N, E)) := HNE.out
      clear c1 q1 HNE
      go_wp2_with fail
      go_loopw [6] (fun iv wr => ∃ i : Nat, i ≤ aL ∧ iv = .int .i64 (i : Int) ∧ Hid (S.data.toList ∉ (bstr zs).take i) ∧ Hid (Below W0.heap.size W0 wr)) (fun iv _ => aL - (intOf iv).toNat)
      case atStart => exact ⟨0, Nat.zero_le _, rfl, by simp [Hid], Below.refl _ _⟩
      case round =>
        obtain ⟨i, hi, rfl, HNO, HBW⟩ := hrel
        have z2 := (HX.out.below HBW.out).c2
        have y2 := (HE.out.below HBW.out).c2
        simp only at z2 y2
        by_cases him : i < aL
        · have HIM := Lib.hid him
          have him' : (i : Int) < aL := by omega
          obtain ⟨x, hx⟩ : ∃ x, zs[i]? = some x := ⟨_, List.getElem?_eq_getElem (by rw [HAL.out]; exact him)⟩
          obtain ⟨go, o, rfl, hgo, x0⟩ := HAS.out i x hx
          have x1 := HBW.out.cell (p := ⟨go, o + i, none⟩) hgo
          rw [x0] at x1
          obtain ⟨d, hd⟩ : ∃ d, (x.toList == S.toList) = d := ⟨_, rfl⟩
          have hgx := bstr_get hx
          clear hx x0 hgo
          cases d
          · have HNO2 : Hid (S.data.toList ∉ (bstr zs).take (i + 1)) := mem_snoc_no HNO.out hgx (fun h => by
              rw [Lib.toList_data, Lib.toList_data, h] at hd
              simp at hd)
            clear hgx
            go_wp2_with fail
            go_quiet (fail)
            go_wp2_with fail
            go_roundw
            case rel => exact ⟨i + 1, by have := HIM.out; omega, by have h1 := HIM.out; have h2 := HC2.out; rw [Go.IntWalk.wrap64_in _ ⟨by omega, by omega⟩]; rfl, HNO2, HBW.out.trans ((drewN_below6 wr _).mono HBW.out.size)⟩
            case measure => have h1 := HIM.out; have h2 := HC2.out; rw [Go.IntWalk.wrap64_in _ ⟨by omega, by omega⟩]; simp [intOf]; omega
          · have hxe : x.data.toList = S.data.toList := by
              have := eq_of_beq hd
              rw [Lib.toList_data, Lib.toList_data] at this
              exact this
            obtain ⟨rfl, rfl⟩ : 1 = N ∧ 0 = E := by
              have hm : S.data.toList ∈ bstr zs := by rw [← hxe]; exact List.mem_of_getElem? hgx
              have := HR.out
              rw [if_pos hm] at this
              injection this with h1 h2
              exact ⟨h1, h2⟩
            clear hgx hxe
            go_wp2_with fail
            go_quiet (fail)
            go_wp2_with fail
            go_ret2
            exact ⟨rfl, (HB.out.trans (HBW.out.mono HB.out.size)).trans ((drewN_below6 wr _).mono (by have := HB.out.size; have := HBW.out.size; omega))⟩
        · have him' : ¬ (i : Int) < aL := by omega
          obtain ⟨rfl, rfl⟩ : 0 = N ∧ 0 = E := by
            have hm : S.data.toList ∉ bstr zs := by
              have := HNO.out
              rw [List.take_of_length_le (by rw [bstr_len, HAL.out]; omega)] at this
              exact this
            have := HR.out
            rw [if_neg hm] at this
            injection this with h1 h2
            exact ⟨h1, h2⟩
          go_wp2_with fail
          go_ret2
          exact ⟨rfl, HB.out.trans (HBW.out.mono HB.out.size)⟩
    · have q3 : (k == 3) = false := ne_beq c3
      have HR : Hid (lookP S.data.toList (bstr xs) ns = (N, E)) := by
        have := HNE.out
        unfold leafP at this
        rw [if_neg c1, if_neg c3] at this
        exact this
      clear c1 c3 HNE
      go_wp2_with fail
      go_loopw [7] (fun iv wr => ∃ i : Nat, i ≤ nL ∧ iv = .int .i64 (i : Int) ∧ Hid (S.data.toList ∉ (bstr xs).take i) ∧ Hid (Below W0.heap.size W0 wr)) (fun iv _ => nL - (intOf iv).toNat)
      case atStart => exact ⟨0, Nat.zero_le _, rfl, by simp [Hid], Below.refl _ _⟩
      case round =>
        obtain ⟨i, hi, rfl, HNO, HBW⟩ := hrel
        have z2 := (HX.out.below HBW.out).c2
        have y0 := (HE.out.below HBW.out).c0
        have y1 := (HE.out.below HBW.out).c1
        simp only at z2 y0 y1
        by_cases him : i < nL
        · have HIM := Lib.hid him
          have him' : (i : Int) < nL := by omega
          obtain ⟨x, hx⟩ : ∃ x, xs[i]? = some x := ⟨_, List.getElem?_eq_getElem (by rw [HNL.out]; exact him)⟩
          obtain ⟨go, o, rfl, hgo, x0⟩ := HNM.out i x hx
          have x1 := HBW.out.cell (p := ⟨go, o + i, none⟩) hgo
          rw [x0] at x1
          obtain ⟨d, hd⟩ : ∃ d, (x.toList == S.toList) = d := ⟨_, rfl⟩
          have hgx := bstr_get hx
          clear hx x0 hgo
          cases d
          · have HNO2 : Hid (S.data.toList ∉ (bstr xs).take (i + 1)) := mem_snoc_no HNO.out hgx (fun h => by
              rw [Lib.toList_data, Lib.toList_data, h] at hd
              simp at hd)
            clear hgx
            go_wp2_with fail
            go_quiet (fail)
            go_wp2_with fail
            go_roundw
            case rel => exact ⟨i + 1, by have := HIM.out; omega, by have h1 := HIM.out; have h2 := HC1.out; rw [Go.IntWalk.wrap64_in _ ⟨by omega, by omega⟩]; rfl, HNO2, HBW.out.trans ((drewN_below6 wr _).mono HBW.out.size)⟩
            case measure => have h1 := HIM.out; have h2 := HC1.out; rw [Go.IntWalk.wrap64_in _ ⟨by omega, by omega⟩]; simp [intOf]; omega
          · have hxe : x.data.toList = S.data.toList := by
              have := eq_of_beq hd
              rw [Lib.toList_data, Lib.toList_data] at this
              exact this
            rw [hxe] at hgx
            have hlk := look_hit (ns := ns) HNO.out hgx
            rw [HR.out] at hlk
            clear hgx hxe
            by_cases hmi : mL ≤ i
            · have hq : decide (mL ≤ i) = true := decide_eq_true hmi
              have hq' : decide ((mL : Int) ≤ i) = true := decide_eq_true (by omega)
              obtain ⟨rfl, rfl⟩ : N = 0 ∧ E = 23 := by
                rw [List.getElem?_eq_none (by rw [HML.out]; omega)] at hlk
                injection hlk with h1 h2
                exact ⟨h1, h2⟩
              clear hlk
              go_wp2_with fail
              go_quiet (fail)
              go_wp2_with fail
              go_ret2
              exact ⟨rfl, (HB.out.trans (HBW.out.mono HB.out.size)).trans ((drewN_below6 wr _).mono (by have := HB.out.size; have := HBW.out.size; omega))⟩
            · have hq : decide (mL ≤ i) = false := decide_eq_false hmi
              have hmi' : (i : Int) < mL := by omega
              obtain ⟨n, hn⟩ : ∃ n, ns[i]? = some n := ⟨_, List.getElem?_eq_getElem (by rw [HML.out]; omega)⟩
              rw [hn] at hlk
              obtain ⟨rfl, rfl⟩ : N = n ∧ E = 0 := by
                injection hlk with h1 h2
                exact ⟨h1, h2⟩
              obtain ⟨go', o', rfl, hgo', t0⟩ := HMS.out i N hn
              have t1 := HBW.out.cell (p := ⟨go', o' + i, none⟩) hgo'
              rw [t0] at t1
              clear hlk hn t0 hgo'
              go_wp2_with fail
              go_quiet (fail)
              go_wp2_with fail
              go_ret2
              exact ⟨rfl, (HB.out.trans (HBW.out.mono HB.out.size)).trans ((drewN_below6 wr _).mono (by have := HB.out.size; have := HBW.out.size; omega))⟩
        · have him' : ¬ (i : Int) < nL := by omega
          obtain ⟨rfl, rfl⟩ : 0 = N ∧ 23 = E := by
            have hm : S.data.toList ∉ bstr xs := by
              have := HNO.out
              rw [List.take_of_length_le (by rw [bstr_len, HNL.out]; omega)] at this
              exact this
            have := HR.out
            rw [look_none hm] at this
            injection this with h1 h2
            exact ⟨h1, h2⟩
          go_wp2_with fail
          go_ret2
          exact ⟨rfl, HB.out.trans (HBW.out.mono HB.out.size)⟩

end Go.Proofs.YthgodhojhajahaaGreatDoor
