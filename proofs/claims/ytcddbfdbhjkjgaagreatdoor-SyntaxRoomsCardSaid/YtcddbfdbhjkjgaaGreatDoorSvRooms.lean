/-
  The law SyntaxRooms: its walk.
-/
import Derived.Test.YtcddbfdbhjkjgaaGreatDoorYF
import Derived.Test.YtcddbfdbhjkjgaaGreatDoorYA
import Derived.Test.YtcddbfdbhjkjgaaGreatDoorEpLaid
namespace Go.Proofs.YtcddbfdbhjkjgaaGreatDoor
open Go.RowKit

theorem and_mask7 (a : Int) (m : Nat) (hm : m < 4611686018427387904) : ∃ n : Nat, n ≤ m ∧ bits .and .i64 a (m : Int) = (n : Int) := by
  refine ⟨(BitVec.ofInt 64 a).toNat &&& m, Nat.and_le_right, ?_⟩
  have h2 : (BitVec.ofInt 64 (m : Int)).toNat = m := by
    rw [BitVec.ofInt_natCast, BitVec.toNat_ofNat]; exact Nat.mod_eq_of_lt (by omega)
  have hle : (BitVec.ofInt 64 a).toNat &&& m ≤ m := Nat.and_le_right
  show IntKind.i64.wrap ((BitVec.ofInt 64 a &&& BitVec.ofInt 64 (m : Int)).toNat : Int) = _
  rw [BitVec.toNat_and, h2]
  exact Go.IntWalk.i64_in _ ⟨by omega, by omega⟩
theorem syF_out (l : List UInt8) : syF l ≠ .out := by
  unfold syF
  split
  · exact syR_out _
  · intro h; cases h
theorem fc_code {α : Type} {R : Rs α} (h : R ≠ .out) : R.fc = R.code := by
  cases R with
  | out => exact absurd rfl h
  | bad c p => rfl
  | ok x s => rfl
/-- A chart's code. -/
theorem code_any (w : World) (s : ByteArray) (hVr : Vars w) (hV : Vs w) {c : Int} (hc : (syF s.data.toList).code = c) :
    Calls Tryz.prog 8 #[.string s] w fun e w' => ∃ y0 y1 y2 y3 y4 y5 y6 y7 y8 y9 p, e = .returned (.tuple #[.agg #[y0, y1, y2, y3, y4, y5, y6, y7, y8, y9], .agg #[.int .i64 c, .int .i64 p]]) ∧ (∀ u ∈ [y0, y1, y2, y3, y4, y5, y6, y7, y8, y9], u.oneCell' = true) ∧ Below w.heap.size w w' := by
  refine (sparse_any w s hVr hV).mono ?_
  rintro e w' ⟨ys, rfl, ⟨F, hr, _, _⟩, hl, hb⟩
  have zo := hr.ones
  obtain ⟨y0, y1, y2, y3, y4, y5, y6, y7, y8, y9, rfl⟩ := cells10 hl
  rw [fc_code (syF_out _), hc]
  exact ⟨y0, y1, y2, y3, y4, y5, y6, y7, y8, y9, _, rfl, zo, hb⟩
theorem pair_chart (w : World) (y0 y1 y2 y3 y4 y5 y6 y7 y8 y9 : Value) (c p : Int) : ∃ (W : World) (g1 g2 : Nat), W = (w.alloc (.cells #[y0, y1, y2, y3, y4, y5, y6, y7, y8, y9] 30)).alloc (.cells #[.int .i64 c, .int .i64 p] 33) ∧
    g1 = w.heap.size ∧ g2 = w.heap.size + 1 ∧ Hid (CB W g1 30 [y0, y1, y2, y3, y4, y5, y6, y7, y8, y9]) ∧ Hid (FtB W g2 (.int .i64 c) (.int .i64 p)) ∧ Hid (Below w.heap.size w W) := by
  have e : (w.alloc (.cells #[y0, y1, y2, y3, y4, y5, y6, y7, y8, y9] 30)).heap.size = w.heap.size + 1 := by simp
  refine ⟨_, _, _, rfl, rfl, rfl, (CB.new w _ [y0, y1, y2, y3, y4, y5, y6, y7, y8, y9]).alloc _, ?_, ((Below.refl _ w).alloc (Nat.le_refl _) _).alloc (by omega) _⟩
  rw [← e]
  exact FtB.new _ _ _

set_option maxHeartbeats 3200000 in
set_option maxRecDepth 20000 in
theorem rooms_law (va no de : Int) (w : World) (_h1 : (Lit.int .i64 va).wf = true) (_h2 : (Lit.int .i64 no).wf = true) (_h3 : (Lit.int .i64 de).wf = true) (hK : KwAt w) (hEr : ErrAt w) (hSg : SgAt w) :
    Calls Tryz.prog 6 #[.int .i64 va, .int .i64 no, .int .i64 de] w fun e w' => e = .returned (.bool true) ∧ Below w.heap.size w w' := by
  have HVR : Hid (Vars w) := ⟨hK, hEr⟩
  have HVS : Hid (Vs w) := ⟨hK, hSg⟩
  have HS := Lib.hid (small7_any w HVR.out HVS.out)
  obtain ⟨v, hv31, hv⟩ := and_mask7 va 31 (by decide)
  obtain ⟨n, hn127, hn⟩ := and_mask7 no 127 (by decide)
  obtain ⟨d, hd15, hd⟩ := and_mask7 de 15 (by decide)
  replace hv : bits .and .i64 va 31 = (v : Int) := hv
  replace hn : bits .and .i64 no 127 = (n : Int) := hn
  replace hd : bits .and .i64 de 15 = (d : Int) := hd
  clear hK hEr hSg _h1 _h2 _h3
  go_enter Tryz.func6, Tryz.ntmps6
  go_wp2_with fail
  refine HS.out.mono ?_
  rintro e w1 ⟨rfl, hb1⟩
  have HB1 := Lib.hid hb1
  have HVR1 := Lib.hid (HVR.out.below hb1)
  have HVS1 := Lib.hid (HVS.out.below hb1)
  clear hb1 HS
  go_wp2_with fail
  go_loop [11, 12] (fun sv iv => ∃ (i : Nat) (S : ByteArray), i ≤ v ∧ sv = .string S ∧ iv = .int .i64 (i : Int) ∧ S.size ≤ 9 + 11 * i ∧ Hid (S.data.toList = headS ++ repS varS1 i)) (fun _ iv => v - (intOf iv).toNat)
  case atStart => exact ⟨0, _, Nat.zero_le _, rfl, rfl, Nat.le_refl _, rfl⟩
  case round =>
    obtain ⟨i, S, hi, rfl, rfl, hSz, HSL⟩ := hrel
    by_cases hin : i < v
    · have hin' : (i : Int) < v := by omega
      have e1 : ¬ 9223372036854775807 < S.size + 11 := by omega
      have HIN := Lib.hid hin
      have HSZ := Lib.hid hSz
      go_wp2_with fail
      go_round
      case rel => exact ⟨i + 1, _, by have := HIN.out; omega, rfl, by go_num, by rw [ByteArray.size_append]; show S.size + 11 ≤ _; have := HSZ.out; omega, by
        show _ = _
        rw [repS_more, ← List.append_assoc, ← HSL.out]
        simp [varS1]⟩
      case measure => have := HIN.out; simp [intOf]; omega
    have hin' : ¬ (i : Int) < v := by omega
    obtain rfl : v = i := by omega
    clear hin hi
    have es : ¬ 9223372036854775807 < S.size + 2 := by omega
    have ES := Lib.hid es
    have HC1 := Lib.hid (code_any w1 (S ++ ⟨#[32, 125]⟩) HVR1.out HVS1.out (c := if v ≤ 16 then 0 else 2) (by
      rw [show (S ++ (⟨#[32, 125]⟩ : ByteArray)).data.toList = S.data.toList ++ [32, 125] from by simp, HSL.out]
      exact room_vars v hv31))
    clear hSz HSL es
    go_wp2_with fail
    go_loop [13, 14] (fun sv iv => ∃ (i : Nat) (T : ByteArray), i ≤ n ∧ sv = .string T ∧ iv = .int .i64 (i : Int) ∧ T.size ≤ 9 + 16 * i ∧ Hid (T.data.toList = headS ++ repS hisS1 i)) (fun _ iv => n - (intOf iv).toNat)
    case atStart => exact ⟨0, _, Nat.zero_le _, rfl, rfl, Nat.le_refl _, rfl⟩
    case round =>
      obtain ⟨i, T, hi, rfl, rfl, hSz, HSL⟩ := hrel
      by_cases hin : i < n
      · have hin' : (i : Int) < n := by omega
        have e1 : ¬ 9223372036854775807 < T.size + 16 := by omega
        have HIN := Lib.hid hin
        have HSZ := Lib.hid hSz
        go_wp2_with fail
        go_round
        case rel => exact ⟨i + 1, _, by have := HIN.out; omega, rfl, by go_num, by rw [ByteArray.size_append]; show T.size + 16 ≤ _; have := HSZ.out; omega, by
          show _ = _
          rw [repS_more, ← List.append_assoc, ← HSL.out]
          simp [hisS1]⟩
        case measure => have := HIN.out; simp [intOf]; omega
      have hin' : ¬ (i : Int) < n := by omega
      obtain rfl : n = i := by omega
      clear hin hi
      have et : ¬ 9223372036854775807 < T.size + 2 := by omega
      have ET := Lib.hid et
      have HC2 := Lib.hid (fun (W : World) (hb : Below w1.heap.size w1 W) => code_any W (T ++ ⟨#[32, 125]⟩) (HVR1.out.below hb) (HVS1.out.below hb) (c := if n < 64 then 0 else 2) (by
        rw [show (T ++ (⟨#[32, 125]⟩ : ByteArray)).data.toList = T.data.toList ++ [32, 125] from by simp, HSL.out]
        exact room_nodes n hn127))
      clear hSz HSL et
      go_wp2_with fail
      go_loop [15, 16, 17] (fun sv tv iv => ∃ (i : Nat) (U X : ByteArray), i ≤ d ∧ sv = .string U ∧ tv = .string X ∧ iv = .int .i64 (i : Int) ∧ U.size ≤ 9 + 10 * i ∧ X.size ≤ i ∧ Hid (U.data.toList = headS ++ repS stS1 i) ∧ Hid (X.data.toList = repS [125] i)) (fun _ _ iv => d - (intOf iv).toNat)
      case atStart => exact ⟨0, _, _, Nat.zero_le _, rfl, rfl, rfl, Nat.le_refl _, Nat.le_refl _, rfl, rfl⟩
      case round =>
        obtain ⟨i, U, X, hi, rfl, rfl, rfl, hSz, hXz, HSL, HXL⟩ := hrel
        by_cases hin : i < d
        · have hin' : (i : Int) < d := by omega
          have e1 : ¬ 9223372036854775807 < U.size + 10 := by omega
          have e2 : ¬ 9223372036854775807 < X.size + 1 := by omega
          have HIN := Lib.hid hin
          have HSZ := Lib.hid hSz
          have HXZ := Lib.hid hXz
          go_wp2_with fail
          go_round
          case rel => exact ⟨i + 1, _, _, by have := HIN.out; omega, rfl, rfl, by go_num, by rw [ByteArray.size_append]; show U.size + 10 ≤ _; have := HSZ.out; omega, by rw [ByteArray.size_append]; show X.size + 1 ≤ _; have := HXZ.out; omega, by
            show _ = _
            rw [repS_more, ← List.append_assoc, ← HSL.out]
            simp [stS1], by
            show _ = _
            rw [repS_more, ← HXL.out]
            simp⟩
          case measure => have := HIN.out; simp [intOf]; omega
        have hin' : ¬ (i : Int) < d := by omega
        obtain rfl : d = i := by omega
        clear hin hi
        have eu : ¬ 9223372036854775807 < U.size + X.size := by omega
        have eu2 : ¬ 9223372036854775807 < (U ++ X).size + 2 := by rw [ByteArray.size_append]; omega
        have eu3 : ¬ 9223372036854775807 < U.size + X.size + 2 := by omega
        have EU := Lib.hid (And.intro eu (And.intro eu2 eu3))
        have HC3 := Lib.hid (fun (W : World) (hb : Below w1.heap.size w1 W) => code_any W (U ++ X ++ ⟨#[32, 125]⟩) (HVR1.out.below hb) (HVS1.out.below hb) (c := if d < 12 then 0 else 21) (by
          rw [show (U ++ X ++ (⟨#[32, 125]⟩ : ByteArray)).data.toList = U.data.toList ++ X.data.toList ++ [32, 125] from by simp, HSL.out, HXL.out]
          exact room_deep d hd15))
        clear hSz hXz HSL HXL eu eu2 eu3
        obtain ⟨cv, hcv⟩ : ∃ c : Int, (if v ≤ 16 then 0 else 2) = c := ⟨_, rfl⟩
        obtain ⟨cn, hcn⟩ : ∃ c : Int, (if n < 64 then 0 else 2) = c := ⟨_, rfl⟩
        obtain ⟨cd, hcd⟩ : ∃ c : Int, (if d < 12 then 0 else 21) = c := ⟨_, rfl⟩
        rw [hcv] at HC1
        rw [hcn] at HC2
        rw [hcd] at HC3
        have HCV : Hid (((cv == 0) = decide ((v : Int) ≤ 16)) ∧ ((cv == 2) = decide ((v : Int) > 16))) := by
          subst hcv
          show _ ∧ _
          by_cases h : v ≤ 16
          · have h' : (v : Int) ≤ 16 := by omega
            have h'' : ¬ (v : Int) > 16 := by omega
            simp [h, h', h'']
          · have h' : ¬ (v : Int) ≤ 16 := by omega
            have h'' : (v : Int) > 16 := by omega
            simp [h, h', h'']
        have HCN : Hid (((cn == 0) = decide ((n : Int) < 64)) ∧ ((cn == 2) = decide ((n : Int) ≥ 64))) := by
          subst hcn
          show _ ∧ _
          by_cases h : n < 64
          · have h' : (n : Int) < 64 := by omega
            have h'' : ¬ (n : Int) ≥ 64 := by omega
            simp [h, h', h'']
          · have h' : ¬ (n : Int) < 64 := by omega
            have h'' : (n : Int) ≥ 64 := by omega
            simp [h, h', h'']
        have HCD : Hid (((cd == 0) = decide ((d : Int) < 12)) ∧ ((cd == 21) = decide ((d : Int) ≥ 12))) := by
          subst hcd
          show _ ∧ _
          by_cases h : d < 12
          · have h' : (d : Int) < 12 := by omega
            have h'' : ¬ (d : Int) ≥ 12 := by omega
            simp [h, h', h'']
          · have h' : ¬ (d : Int) < 12 := by omega
            have h'' : (d : Int) ≥ 12 := by omega
            simp [h, h', h'']
        clear hcv hcn hcd hv31 hn127 hd15
        have es := ES.out
        go_wp2_with fail
        refine (HC1.out).mono ?_
        rintro e w2 ⟨y0, y1, y2, y3, y4, y5, y6, y7, y8, y9, p2, rfl, zo, hb⟩
        obtain ⟨W2, ga2, gf2, hW, hg1, hg2, _, HF2, HB⟩ := pair_chart w2 y0 y1 y2 y3 y4 y5 y6 y7 y8 y9 cv p2
        have st : ∀ u ∈ [y0, y1, y2, y3, y4, y5, y6, y7, y8, y9], ∀ (w : World) (a : Addr), (store a u).run Tryz.prog w = stored Tryz.prog w a u .plain := fun u hu w a => run_store _ w a u .plain (zo u hu)
        have s0 := st y0 (by simp)
        have s1 := st y1 (by simp)
        have s2 := st y2 (by simp)
        have s3 := st y3 (by simp)
        have s4 := st y4 (by simp)
        have s5 := st y5 (by simp)
        have s6 := st y6 (by simp)
        have s7 := st y7 (by simp)
        have s8 := st y8 (by simp)
        have s9 := st y9 (by simp)
        have hbb : Below w1.heap.size w1 W2 := hb.trans (HB.out.mono hb.size)
        have HBW2 : Hid (Below w1.heap.size w1 W2) := hbb
        have HSZ2 : Hid (gf2 = w2.heap.size + 1 ∧ w2.heap.size + 2 = W2.heap.size) := by rw [hW]; constructor; exact hg2; simp
        clear st zo hb hbb HB HC1 es
        go_upto_region 23 with fail
        rw [← hW, ← hg2, ← hg1]
        clear hW hg1 hg2 s0 s1 s2 s3 s4 s5 s6 s7 s8 s9
        have et := ET.out
        go_wp2_with fail
        refine (HC2.out _ HBW2.out).mono ?_
        rintro e w3 ⟨y0, y1, y2, y3, y4, y5, y6, y7, y8, y9, p3, rfl, zo, hb⟩
        obtain ⟨W3, ga3, gf3, hW, hg1, hg2, _, HF3, HB⟩ := pair_chart w3 y0 y1 y2 y3 y4 y5 y6 y7 y8 y9 cn p3
        have st : ∀ u ∈ [y0, y1, y2, y3, y4, y5, y6, y7, y8, y9], ∀ (w : World) (a : Addr), (store a u).run Tryz.prog w = stored Tryz.prog w a u .plain := fun u hu w a => run_store _ w a u .plain (zo u hu)
        have s0 := st y0 (by simp)
        have s1 := st y1 (by simp)
        have s2 := st y2 (by simp)
        have s3 := st y3 (by simp)
        have s4 := st y4 (by simp)
        have s5 := st y5 (by simp)
        have s6 := st y6 (by simp)
        have s7 := st y7 (by simp)
        have s8 := st y8 (by simp)
        have s9 := st y9 (by simp)
        have hbb : Below W2.heap.size W2 W3 := hb.trans (HB.out.mono hb.size)
        have HBW3 : Hid (Below w1.heap.size w1 W3) := HBW2.out.trans (hbb.mono HBW2.out.size)
        have HF2' := Lib.hid (HF2.out.below hbb)
        clear st zo hb hbb HB HC2 et HF2
        go_upto_region 24 with fail
        rw [← hW, ← hg2, ← hg1]
        clear hW hg1 hg2 s0 s1 s2 s3 s4 s5 s6 s7 s8 s9
        have eu := EU.out.1
        have eu2 := EU.out.2.1
        have eu3 := EU.out.2.2
        go_wp2_with fail
        refine (HC3.out _ HBW3.out).mono ?_
        rintro e w4 ⟨y0, y1, y2, y3, y4, y5, y6, y7, y8, y9, p4, rfl, zo, hb⟩
        obtain ⟨W4, ga4, gf4, hW, hg1, hg2, _, HF4, HB⟩ := pair_chart w4 y0 y1 y2 y3 y4 y5 y6 y7 y8 y9 cd p4
        have st : ∀ u ∈ [y0, y1, y2, y3, y4, y5, y6, y7, y8, y9], ∀ (w : World) (a : Addr), (store a u).run Tryz.prog w = stored Tryz.prog w a u .plain := fun u hu w a => run_store _ w a u .plain (zo u hu)
        have s0 := st y0 (by simp)
        have s1 := st y1 (by simp)
        have s2 := st y2 (by simp)
        have s3 := st y3 (by simp)
        have s4 := st y4 (by simp)
        have s5 := st y5 (by simp)
        have s6 := st y6 (by simp)
        have s7 := st y7 (by simp)
        have s8 := st y8 (by simp)
        have s9 := st y9 (by simp)
        have hbb : Below W3.heap.size W3 W4 := hb.trans (HB.out.mono hb.size)
        have HBW4 : Hid (Below w1.heap.size w1 W4) := HBW3.out.trans (hbb.mono HBW3.out.size)
        have HF2'' := Lib.hid (HF2'.out.below hbb)
        have HF3' := Lib.hid (HF3.out.below hbb)
        clear st zo hb hbb HB HC3 eu eu2 eu3 HF2' HF3
        go_upto_region 25 with fail
        rw [← hW, ← hg2, ← hg1]
        clear hW hg1 hg2 s0 s1 s2 s3 s4 s5 s6 s7 s8 s9
        have x2 := HF2''.out.c0
        have x3 := HF3'.out.c0
        have x4 := HF4.out.c0
        obtain ⟨a1, a2⟩ := HCV.out
        obtain ⟨a3, a4⟩ := HCN.out
        obtain ⟨a5, a6⟩ := HCD.out
        go_wp2_with fail
        go_ret
        exact ⟨rfl, HB1.out.trans (HBW4.out.mono HB1.out.size)⟩

end Go.Proofs.YtcddbfdbhjkjgaaGreatDoor
