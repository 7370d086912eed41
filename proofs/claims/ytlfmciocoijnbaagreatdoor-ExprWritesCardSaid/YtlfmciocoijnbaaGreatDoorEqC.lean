/-
  The document's level of an operator; whether a tree has the form of one.
-/
import Derived.Test.YtlfmciocoijnbaaGreatDoorXF
import Derived.Test.YtlfmciocoijnbaaGreatDoorXF
import Derived.Test.YtlfmciocoijnbaaGreatDoorEwJ
import Derived.Test.YtlfmciocoijnbaaGreatDoorEwG
namespace Go.Proofs.YtlfmciocoijnbaaGreatDoor
open Go.RowKit

def lvl (x : GX) : Nat := if x.kind = 5 then rowOf x.op else 6

theorem rowOf_le (op : Int) : rowOf op ≤ 6 := by
  unfold rowOf
  repeat' split
  all_goals omega

theorem op_row : ∀ {k : Nat} {o : List UInt8 × Int}, k < 6 → o ∈ rowOps k → rowOf o.2 = k
  | 0, o, _, h => by simp only [rowOps, List.mem_cons, List.not_mem_nil, or_false] at h; rcases h with rfl; rfl
  | 1, o, _, h => by simp only [rowOps, List.mem_cons, List.not_mem_nil, or_false] at h; rcases h with rfl; rfl
  | 2, o, _, h => by simp only [rowOps, List.mem_cons, List.not_mem_nil, or_false] at h; rcases h with rfl | rfl <;> rfl
  | 3, o, _, h => by simp only [rowOps, List.mem_cons, List.not_mem_nil, or_false] at h; rcases h with rfl | rfl | rfl | rfl <;> rfl
  | 4, o, _, h => by simp only [rowOps, List.mem_cons, List.not_mem_nil, or_false] at h; rcases h with rfl | rfl <;> rfl
  | 5, o, _, h => by simp only [rowOps, List.mem_cons, List.not_mem_nil, or_false] at h; rcases h with rfl | rfl | rfl <;> rfl
  | k + 6, o, hk, _ => by omega

theorem row_mem {op : Int} (h : rowOf op < 6) : (sgOf op, op) ∈ rowOps (rowOf op) := by
  rcases row_cases h with rfl | rfl | rfl | rfl | rfl | rfl | rfl | rfl | rfl | rfl | rfl | rfl | rfl <;> decide

set_option maxHeartbeats 800000 in
set_option maxRecDepth 20000 in
theorem elevel_any (w : World) (x : GX) (v : EV) (hk : v.kind = x.kind) (ho : v.op = x.op) :
    Calls Tryz.prog 44 #[v.val] w fun e w' => e = .returned (.int .i64 (lvl x : Int)) ∧ Below w.heap.size w w' := by
  obtain ⟨W0, hW0⟩ : ∃ W0, W0 = w.alloc (.cells #[.int .i64 v.kind, .int .i64 v.num, .string v.name, .int .i64 v.op, .slice v.A v.len v.cap, .int .i64 v.p] 26) := ⟨_, rfl⟩
  obtain ⟨g0, hg0⟩ : ∃ g0, g0 = w.heap.size := ⟨_, rfl⟩
  have HB0 : Hid (Below w.heap.size w W0) := by rw [hW0]; exact (Below.refl _ w).alloc (Nat.le_refl _) _
  have HX0 : Hid (XpB W0 g0 v) := by rw [hW0, hg0]; exact XpB.new w v
  have HN := Lib.hid (enumbers_any W0)
  have HLV : Hid (lvl x = if v.kind = 5 then rowOf v.op else 6) := by show _ = _; rw [hk, ho]; rfl
  obtain ⟨l, hl⟩ : ∃ l, lvl x = l := ⟨_, rfl⟩
  rw [hl] at HLV ⊢
  have hvv : v.val = .agg #[.int .i64 v.kind, .int .i64 v.num, .string v.name, .int .i64 v.op, .slice v.A v.len v.cap, .int .i64 v.p] := rfl
  rw [hvv]
  clear hl hk ho hvv
  go_enter Tryz.func44, Tryz.ntmps44
  go_upto_region 1 with fail
  rw [← hW0, ← hg0]
  clear hW0 hg0
  go_wp2_with fail
  refine HN.out.mono ?_
  rintro e w1 ⟨rfl, hr, hb⟩
  have HRW := Lib.hid hr
  have HX1 := Lib.hid (HX0.out.below hb)
  have HB1 := Lib.hid (HB0.out.trans (hb.mono HB0.out.size))
  obtain ⟨g1, hg1⟩ : ∃ g1, W0.heap.size + 6 = g1 := ⟨_, rfl⟩
  rw [hg1] at HRW ⊢
  clear hr hb hg1 HN HX0 HB0
  go_wp2_with fail
  go_loopw [4] (fun kv wr => ∃ k : Nat, k ≤ 6 ∧ kv = .int .i64 (k : Int) ∧ Hid (∀ j, j < k → rowOf v.op ≠ j) ∧ Hid (Below w1.heap.size w1 wr)) (fun kv _ => 6 - (intOf kv).toNat)
  case atStart => exact ⟨0, Nat.zero_le _, rfl, fun j hj => absurd hj (Nat.not_lt_zero j), Below.refl _ _⟩
  case round =>
    obtain ⟨k, hk, rfl, HNO, HB⟩ := hrel
    have HXR := Lib.hid (HX1.out.below HB.out)
    have z0 := HXR.out.c0
    by_cases hk6 : k < 6
    · have hk6' : (k : Int) < 6 := by omega
      by_cases h5 : v.kind = 5
      · have h5' : (v.kind == 5) = true := beq_iff_eq.2 h5
        obtain ⟨gk, y1, z1⟩ := HRW.out k hk6
        obtain ⟨m, hm⟩ : ∃ m, (rowOps k).length = m := ⟨_, rfl⟩
        rw [hm] at y1
        have hm4 : m ≤ 4 := by rw [← hm]; exact rowOps_len k
        have HM := Lib.hid hm
        have HY1 := Lib.hid y1
        have HZ1 := Lib.hid z1
        have HK6 := Lib.hid hk6
        have H5 := Lib.hid h5
        clear y1 z1 hm h5
        go_wp2_with fail
        go_loopw [5] (fun iv wr => ∃ i : Nat, i ≤ m ∧ iv = .int .i64 (i : Int) ∧ Hid (∀ (j : Nat) (o : List UInt8 × Int), j < i → (rowOps k)[j]? = some o → o.2 ≠ v.op) ∧ Hid (Below w1.heap.size w1 wr)) (fun iv _ => m - (intOf iv).toNat)
        case atStart => exact ⟨0, Nat.zero_le _, rfl, fun j o hj => absurd hj (Nat.not_lt_zero j), HB⟩
        case round =>
          obtain ⟨i, hi, rfl, HNI, HBI⟩ := hrel
          have HXI := Lib.hid (HX1.out.below HBI.out)
          have u1 : _ := HBI.out.cell (World.block_lt_of_cell? w1 _ HY1.out) |>.trans HY1.out
          by_cases him : i < m
          · have HIM := Lib.hid him
            have him' : (i : Int) < m := by omega
            obtain ⟨o, hoi⟩ : ∃ o, (rowOps k)[i]? = some o := ⟨_, List.getElem?_eq_getElem (by rw [HM.out]; exact him)⟩
            have u2 : _ := HBI.out.cell (World.block_lt_of_cell? w1 _ (HZ1.out i o hoi)) |>.trans (HZ1.out i o hoi)
            have z3 := HXI.out.c3
            have HOI := Lib.hid hoi
            obtain ⟨d, hd⟩ : ∃ d, (o.2 == v.op) = d := ⟨_, rfl⟩
            have HD := Lib.hid hd
            clear hoi
            cases d
            · have HN2 : Hid (∀ (j : Nat) (o : List UInt8 × Int), j < i + 1 → (rowOps k)[j]? = some o → o.2 ≠ v.op) := fun j o' hj ho' => by
                rcases Nat.lt_succ_iff_lt_or_eq.1 hj with h | rfl
                · exact HNI.out j o' h ho'
                · rw [HOI.out] at ho'
                  injection ho' with ho'
                  rw [← ho']
                  exact beq_eq_false_iff_ne.1 HD.out
              go_wp2_with fail
              go_region
              go_wp2_with fail
              go_roundw
              case rel => exact ⟨i + 1, by have := HIM.out; omega, by go_num, HN2, HBI.out.drew⟩
              case measure => have := HIM.out; simp [intOf]; omega
            · have HL : Hid (l = k) := by
                show l = k
                rw [HLV.out, if_pos H5.out, ← eq_of_beq HD.out]
                exact op_row HK6.out (List.mem_of_getElem? HOI.out)
              go_wp2_with fail
              go_region
              go_wp2_with fail
              go_ret
              exact ⟨by rw [HL.out]; rfl, HB1.out.trans (HBI.out.drew.mono HB1.out.size)⟩
          · have him' : ¬ (i : Int) < m := by omega
            have HN2 : Hid (∀ j, j < k + 1 → rowOf v.op ≠ j) := fun j hj => by
              rcases Nat.lt_succ_iff_lt_or_eq.1 hj with h | rfl
              · exact HNO.out j h
              · intro e
                have hmem := row_mem (op := v.op) (by rw [e]; exact HK6.out)
                rw [e] at hmem
                obtain ⟨q, hq⟩ := List.getElem?_of_mem hmem
                have hql := (List.getElem?_eq_some_iff.1 hq).1
                rw [HM.out] at hql
                exact HNI.out q _ (by omega) hq rfl
            go_wp2_with fail
            go_roundw
            case rel => exact ⟨k + 1, by have := HK6.out; omega, by go_num, HN2, HBI⟩
            case measure => have := HK6.out; simp [intOf]; omega
      · have h5' : (v.kind == 5) = false := beq_eq_false_iff_ne.2 h5
        obtain rfl : l = 6 := by rw [HLV.out, if_neg h5]
        go_wp2_with fail
        go_ret
        exact ⟨rfl, HB1.out.trans (HB.out.mono HB1.out.size)⟩
    · have hk6' : ¬ (k : Int) < 6 := by omega
      obtain rfl : l = 6 := by
        rw [HLV.out]
        split
        · have h1 := rowOf_le v.op
          rcases Nat.lt_or_ge (rowOf v.op) 6 with h | h
          · exact absurd rfl (HNO.out _ (by omega))
          · omega
        · rfl
      go_wp2_with fail
      go_ret
      exact ⟨rfl, HB1.out.trans (HB.out.mono HB1.out.size)⟩

end Go.Proofs.YtlfmciocoijnbaaGreatDoor
