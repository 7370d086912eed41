/-
  The law EvalAlone: its walk.
-/
import Derived.Test.YthgodhojhajahaaGreatDoorVaZ
import Derived.Test.YthgodhojhajahaaGreatDoorVaY
namespace Go.Proofs.YthgodhojhajahaaGreatDoor
open Go.RowKit

/-- What the making of the greater environment has at each operation. -/
def moreF (w2 : World) (g2 : Nat) (e : NV) (xs zs : List ByteArray) (ns : List Int) (name : ByteArray) (n : Int) (j : Nat) (v : Value) (w : World) : Prop :=
  match j with
  | 0 => v = .string name
  | 1 => ∃ g, v = .slice (some ⟨g, 0, none⟩) 1 1 ∧ w2.heap.size ≤ g ∧ FullAt w 9 g [.string name]
  | 2 => v = .pointer (some ⟨g2, 0, none⟩)
  | 3 => v = .slice e.nA e.nL e.nC
  | 4 => ∃ A c, v = .slice A (e.nL + 1) c ∧ StRow w w2.heap.size v ([name] ++ xs)
  | 5 => v = .int .i64 n
  | 6 => ∃ g, v = .slice (some ⟨g, 0, none⟩) 1 1 ∧ w2.heap.size ≤ g ∧ FullAt w 3 g [.int .i64 n]
  | 7 => v = .pointer (some ⟨g2, 1, none⟩)
  | 8 => v = .slice e.mA e.mL e.mC
  | 9 => ∃ A c, v = .slice A (e.mL + 1) c ∧ InRow w w2.heap.size v ([n] ++ ns)
  | 10 => ∃ g, v = .slice (some ⟨g, 0, none⟩) 0 0 ∧ w2.heap.size ≤ g ∧ FullAt w 9 g []
  | 11 => v = .pointer (some ⟨g2, 2, none⟩)
  | 12 => v = .slice e.aA e.aL e.aC
  | 13 => ∃ A c, v = .slice A e.aL c ∧ StRow w w2.heap.size v zs
  | 15 => ∃ g, v = .pointer (some ⟨g, 0, none⟩) ∧ w2.heap.size ≤ g ∧ EnB 28 w g ⟨none, 0, 0, none, 0, 0, none, 0, 0⟩
  | _ => True

theorem moreF_mono (w2 : World) (g2 : Nat) (e : NV) (xs zs : List ByteArray) (ns : List Int) (name : ByteArray) (n : Int) (j : Nat) (v : Value) (w w' : World) (h : moreF w2 g2 e xs zs ns name n j v w) (hb : Below w.heap.size w w') : moreF w2 g2 e xs zs ns name n j v w' := by
  unfold moreF at h ⊢
  split at h
  · exact h
  · obtain ⟨g, h1, h2, h3⟩ := h; exact ⟨g, h1, h2, h3.below hb⟩
  · exact h
  · exact h
  · obtain ⟨A, c, h1, h2⟩ := h; exact ⟨A, c, h1, h2.below hb⟩
  · exact h
  · obtain ⟨g, h1, h2, h3⟩ := h; exact ⟨g, h1, h2, h3.below hb⟩
  · exact h
  · exact h
  · obtain ⟨A, c, h1, h2⟩ := h; exact ⟨A, c, h1, h2.below hb⟩
  · obtain ⟨g, h1, h2, h3⟩ := h; exact ⟨g, h1, h2, h3.below hb⟩
  · exact h
  · exact h
  · obtain ⟨A, c, h1, h2⟩ := h; exact ⟨A, c, h1, h2.below hb⟩
  · obtain ⟨g, h1, h2, h3⟩ := h; exact ⟨g, h1, h2, h3.below hb⟩
  · trivial

/-- .. and of the values together. -/
def moreG (w2 : World) (vals : Nat → Option Value) (w : World) : Prop :=
  Hid (Below w2.heap.size w2 w) ∧ (∀ u v, vals 4 = some u → vals 13 = some v → Ap u v) ∧ ∀ v, vals 14 = some v → ∃ u4 u9 u13, vals 4 = some u4 ∧ vals 9 = some u9 ∧ vals 13 = some u13 ∧ v = .agg #[u4, u9, u13]

theorem moreG_upd {w2 : World} {vals : Nat → Option Value} {w w' : World} {i : Nat} {v : Value} (h : moreG w2 vals w) (hb : Below w.heap.size w w') (hi : vals i = none) (h4 : i = 4 → ∀ u, vals 13 = some u → Ap v u) (h13 : i = 13 → ∀ u, vals 4 = some u → Ap u v)
    (h14 : i = 14 → ∃ u4 u9 u13, vals 4 = some u4 ∧ vals 9 = some u9 ∧ vals 13 = some u13 ∧ v = .agg #[u4, u9, u13]) : moreG w2 (updV vals i v) w' := by
  have hne : ∀ j u, vals j = some u → j ≠ i := fun j u hj e => by rw [e, hi] at hj; cases hj
  refine ⟨hbel_trans h.1 hb, fun u u' hu hu' => ?_, fun u hu => ?_⟩
  · by_cases c : i = 4
    · subst c
      rw [updV_same] at hu
      injection hu with hu
      rw [updV_ne vals v (by decide)] at hu'
      rw [← hu]
      exact h4 rfl u' hu'
    · rw [updV_ne vals v (fun e => c e.symm)] at hu
      by_cases d : i = 13
      · subst d
        rw [updV_same] at hu'
        injection hu' with hu'
        rw [← hu']
        exact h13 rfl u hu
      · rw [updV_ne vals v (fun e => d e.symm)] at hu'
        exact h.2.1 u u' hu hu'
  · by_cases c : i = 14
    · subst c
      rw [updV_same] at hu
      injection hu with hu
      obtain ⟨u4, u9, u13, q1, q2, q3, q4⟩ := h14 rfl
      exact ⟨u4, u9, u13, by rw [updV_ne vals v (by decide)]; exact q1, by rw [updV_ne vals v (by decide)]; exact q2, by rw [updV_ne vals v (by decide)]; exact q3, by rw [← hu]; exact q4⟩
    · rw [updV_ne vals v (fun e => c e.symm)] at hu
      obtain ⟨u4, u9, u13, q1, q2, q3, q4⟩ := h.2.2 u hu
      exact ⟨u4, u9, u13, by rw [updV_ne vals v (hne _ _ q1)]; exact q1, by rw [updV_ne vals v (hne _ _ q2)]; exact q2, by rw [updV_ne vals v (hne _ _ q3)]; exact q3, q4⟩

theorem mem_mkS (s : ByteArray) (L : List (List UInt8)) : s ∈ mkS L ↔ s.data.toList ∈ L := by
  rw [← mem_bstr]
  have : bstr (mkS L) = L := by
    unfold bstr mkS
    rw [List.map_map]
    exact (List.map_congr_left (fun s _ => rfl)).trans (List.map_id L)
  rw [this]

theorem not_snoc {s : ByteArray} {l : List ByteArray} {i : Nat} {x : ByteArray} (h : s ∉ l.take i) (hx : l[i]? = some x) (hn : (x.toList == s.toList) = false) : s ∉ l.take (i + 1) := by
  rw [List.take_add_one, hx]
  simp only [Option.toList_some, List.mem_append, List.mem_singleton]
  rintro (h' | h')
  · exact h h'
  · rw [h'] at hn
    simp at hn

theorem in_snoc {s : ByteArray} {l : List ByteArray} {i : Nat} {x : ByteArray} (hx : l[i]? = some x) (hn : (x.toList == s.toList) = true) : s ∈ l.take (i + 1) := by
  rw [List.take_add_one, hx]
  simp only [Option.toList_some, List.mem_append, List.mem_singleton]
  right
  refine (barr_inj ?_).symm
  have := eq_of_beq hn
  rw [Lib.toList_data, Lib.toList_data] at this
  exact this

set_option maxHeartbeats 6400000 in
set_option maxRecDepth 20000 in
theorem alone_law (x : GX) (v : EV) (e : NV) (xs zs : List ByteArray) (ns : List Int) (name : ByteArray) (n : Int) (w : World) (hg : GV w 0 w.heap.size x v) (hr : x.rng) (_hf : x.fit) (hn2 : (colP 2 x).length ≤ 1048576) (hn3 : (colP 3 x).length ≤ 1048576)
    (hN : NvIs w e xs zs ns) (_hR : ∀ n ∈ ns, inR n) (hF : NvFit e xs zs) (_h1 : name.size ≤ maxLen) (_h2 : name.size ≤ 140737488351232) (_h3 : (Lit.int .i64 n).wf = true) (hK : KwAt w) (hEr : ErrAt w) (hSg : SgAt w) :
    Calls Tryz.prog 5 #[v.val, e.val, .string name, .int .i64 n] w fun e w' => e = .returned (.bool true) ∧ Below w.heap.size w w' := by
  obtain ⟨W0, g1, g2, hW0, hg1, hg2, HX, HE, HB⟩ := two_boxes w v e
  have HEE : Hid (E6 W0) := (E6.mk ⟨hK, hEr⟩ ⟨hK, hSg⟩).below HB.out
  have HS := Lib.hid (small6_any W0 HEE.out)
  have HGV := Lib.hid (fun (W : World) (hb : Below w.heap.size w W) => (GV.below hg hb (Nat.le_refl _)).mono (Nat.le_refl 0) hb.size)
  have HNV := Lib.hid (fun (W : World) (hb : Below w.heap.size w W) => hN.below hb)
  have HNM := Lib.hid (fun (W : World) (hb : Below w.heap.size w W) => names_slices x W v ((GV.below hg hb (Nat.le_refl _)).mono (Nat.le_refl 0) hb.size) hr hn2 hn3)
  have HNF := Lib.hid hF
  have HL : Hid ((mkS (nmsOf 2 x)).length ≤ 1048576 ∧ (mkS (nmsOf 3 x)).length ≤ 1048576) := by
    have h2 := nmP_len 2 x []
    have h3 := nmP_len 3 x []
    rw [List.length_nil] at h2 h3
    rw [mkS_len, mkS_len]
    exact ⟨by unfold nmsOf; omega, by unfold nmsOf; omega⟩
  have HH2 : Hid (name ∉ mkS (nmsOf 2 x) → hasP 2 name.data.toList x = false) := fun h => by
    cases hh : hasP 2 name.data.toList x with
    | false => rfl
    | true => exact absurd ((mem_mkS _ _).2 ((mem_nmsOf 2 x _).2 ((mem_colP 2 _ x).2 hh))) h
  have HH3 : Hid (name ∉ mkS (nmsOf 3 x) → hasP 3 name.data.toList x = false) := fun h => by
    cases hh : hasP 3 name.data.toList x with
    | false => rfl
    | true => exact absurd ((mem_mkS _ _).2 ((mem_nmsOf 3 x _).2 ((mem_colP 3 _ x).2 hh))) h
  obtain ⟨N2, hN2⟩ : ∃ l, mkS (nmsOf 2 x) = l := ⟨_, rfl⟩
  obtain ⟨N3, hN3⟩ : ∃ l, mkS (nmsOf 3 x) = l := ⟨_, rfl⟩
  rw [hN2, hN3] at HNM HL
  rw [hN2] at HH2
  rw [hN3] at HH3
  clear hg hr _hf hn2 hn3 hN _hR hF _h1 _h2 _h3 hK hEr hSg hN2 hN3
  obtain ⟨nA, nL, nC, mA, mL, mC, aA, aL, aC⟩ := e
  obtain ⟨k, num, S, op, XA, len, cap, p⟩ := v
  simp only [EV.val, NV.val] at hW0 HNM ⊢
  go_enter Tryz.func5, Tryz.ntmps5
  go_upto_region 1 with fail
  rw [← hW0, ← hg2, ← hg1]
  clear hW0 hg1 hg2
  go_wp2_with fail
  refine HS.out.mono ?_
  rintro r w1 ⟨rfl, hb⟩
  have HB1 := Lib.hid (HB.out.trans (hb.mono HB.out.size))
  have HX1 := Lib.hid (HX.out.below hb)
  have HE1 := Lib.hid (HE.out.below hb)
  clear hb HS HX HE HB HEE
  have HC := Lib.hid (HNM.out w1 HB1.out)
  have z0 := HX1.out.c0
  have z1 := HX1.out.c1
  have z2 := HX1.out.c2
  have z3 := HX1.out.c3
  have z4 := HX1.out.c4
  have z5 := HX1.out.c5
  simp only at z0 z1 z2 z3 z4 z5
  go_wp2_with fail
  refine HC.out.mono ?_
  rintro r w2 ⟨VA, vn, vc, SA, sn, sc, rfl, ra, rb, _, hb⟩
  have HRA := Lib.hid ra
  have HRB := Lib.hid rb
  have HB2 := Lib.hid (HB1.out.trans (hb.mono HB1.out.size))
  have HX2 := Lib.hid (HX1.out.below hb)
  have HE2 := Lib.hid (HE1.out.below hb)
  have HLN2 : Hid (N2.length = vn ∧ N3.length = sn) := by
    obtain ⟨_, _, e1, _⟩ := ra.str
    obtain ⟨_, _, e2, _⟩ := rb.str
    injection e1 with _ e1
    injection e2 with _ e2
    exact ⟨e1.symm, e2.symm⟩
  have HNV2 := Lib.hid (HNV.out w2 HB2.out)
  clear ra rb hb HC HX1 HE1 z0 z1 z2 z3 z4 z5 HB1 HNM
  go_wp2_with fail
  go_loopw [12] (fun iv wr => ∃ i : Nat, i ≤ vn ∧ iv = .int .i64 (i : Int) ∧ Hid (wr = w2) ∧ Hid (name ∉ N2.take i)) (fun iv _ => vn - (intOf iv).toNat)
  case atStart => exact ⟨0, Nat.zero_le _, rfl, Lib.hid rfl, by simp [Hid]⟩
  case round =>
    obtain ⟨i, hi, rfl, HW, HNO⟩ := hrel
    obtain rfl : w2 = wr := HW.out.symm
    by_cases him : i < vn
    · have HIM := Lib.hid him
      have him' : (i : Int) < vn := by omega
      obtain ⟨s, hs⟩ : ∃ s, N2[i]? = some s := ⟨_, List.getElem?_eq_getElem (by rw [HLN2.out.1]; exact him)⟩
      obtain ⟨g, rfl, _, _, x0, _, _⟩ := HRA.out.at_ hs
      obtain ⟨d, hd⟩ : ∃ d, (s.toList == name.toList) = d := ⟨_, rfl⟩
      cases d
      · have HNO2 := Lib.hid (not_snoc HNO.out hs hd)
        clear hs
        go_wp2_with fail
        go_roundw
        case rel => exact ⟨i + 1, by have := HIM.out; omega, by have h1 := HIM.out; have h2 := HL.out.1; have h3 := HLN2.out.1; rw [Go.IntWalk.wrap64_in _ ⟨by omega, by omega⟩]; rfl, Lib.hid trivial, HNO2⟩
        case measure => have h1 := HIM.out; have h2 := HL.out.1; have h3 := HLN2.out.1; rw [Go.IntWalk.wrap64_in _ ⟨by omega, by omega⟩]; simp [intOf]; omega
      · clear hs
        go_wp2_with fail
        go_ret
        exact ⟨rfl, HB2.out⟩
    · have him' : ¬ (i : Int) < vn := by omega
      have HNOT : Hid (hasP 2 name.data.toList x = false) := HH2.out (by
        have := HNO.out
        rw [List.take_of_length_le (by rw [HLN2.out.1]; omega)] at this
        exact this)
      clear HW HNO
      go_wp2_with fail
      go_upto_region 8 with fail
      go_cut [13] from 39 to 53 (fun s13 wx => ∃ (g13 : Nat) (e' : NV), s13 = .pointer (some ⟨g13, 0, none⟩) ∧ Hid (MoreAt wx w2.heap.size g13 e' ([name] ++ xs) ([n] ++ ns) zs) ∧ Hid (Below w2.heap.size w2 wx))
      case first =>
        refine region_free2 _ _ _ (by kernel_rfl) 16 rfl (by kernel_rfl) (by kernel_rfl) (fun i => match i with | 1 => [0] | 3 => [2] | 4 => [1, 3] | 6 => [5] | 8 => [7] | 9 => [6, 8, 4] | 12 => [11] | 13 => [10, 12, 9] | 14 => [4, 9, 13] | 16 => [15, 14] | _ => []) (by kernel_rfl) (by kernel_rfl)
          (moreF w2 g2 ⟨nA, nL, nC, mA, mL, mC, aA, aL, aC⟩ xs zs ns name n) (moreG w2)
          (fun vals wx => ∃ (g13 : Nat) (e' : NV), vals 15 = some (.pointer (some ⟨g13, 0, none⟩)) ∧ Hid (MoreAt wx w2.heap.size g13 e' ([name] ++ xs) ([n] ++ ns) zs) ∧ Hid (Below w2.heap.size w2 wx)) (moreF_mono _ _ _ _ _ _ _ _) ⟨hbel_drew (hbel_refl w2), fun u v h => (by cases h), fun v h => (by cases h)⟩ ?_ ?_ ?_
        · intro i o hi ho a vals W hG hbase hdep hv hcl hall
          have hi' : i = 0 ∨ i = 1 ∨ i = 2 ∨ i = 3 ∨ i = 4 ∨ i = 5 ∨ i = 6 ∨ i = 7 ∨ i = 8 ∨ i = 9 ∨ i = 10 ∨ i = 11 ∨ i = 12 ∨ i = 13 ∨ i = 14 ∨ i = 15 := by omega
          have HG := Lib.hid hG
          have HV := Lib.hid hv
          have HCL := Lib.hid hcl
          have HALL := Lib.hid hall
          clear hG hv hcl hall hi
          rcases hi' with rfl | rfl | rfl | rfl | rfl | rfl | rfl | rfl | rfl | rfl | rfl | rfl | rfl | rfl | rfl | rfl
          · have hq := ev_get (hbase 2 (by kernel_rfl))
            replace hq : a.tmps[2]?.getD undef = .string name := hq
            simp only [List.getElem?_toArray, List.getElem?_cons_zero, Option.some.injEq] at ho
            subst ho
            unfold Oper.wp
            go_simp
            exact ⟨_, rfl, rfl, (moreG_upd HG.out (Below.refl _ W) HV.out (fun h => by omega) (fun h => by omega) (fun h => by omega)), Below.refl _ _⟩
          · have hq : a.tmps[39]?.getD undef = .string name := ev_get (show a.eval (.tmp 39) = .string name from (hdep 0 (by simp)).1)
            simp only [List.getElem?_toArray, List.getElem?_cons_succ, List.getElem?_cons_zero, Option.some.injEq] at ho
            subst ho
            unfold Oper.wp
            go_simp
            exact ⟨_, rfl, ⟨_, rfl, HG.out.1.out.size, heap_alloc_new W _⟩, (moreG_upd HG.out ((Below.refl _ W).alloc (Nat.le_refl _) _) HV.out (fun h => by omega) (fun h => by omega) (fun h => by omega)), (Below.refl _ W).alloc (Nat.le_refl _) _⟩
          · have hq := ev_get (hbase 5 (by kernel_rfl))
            replace hq : a.tmps[5]?.getD undef = .pointer (some ⟨g2, 0, none⟩) := hq
            simp only [List.getElem?_toArray, List.getElem?_cons_succ, List.getElem?_cons_zero, Option.some.injEq] at ho
            subst ho
            unfold Oper.wp
            go_simp
            exact ⟨_, rfl, rfl, (moreG_upd HG.out (Below.refl _ W) HV.out (fun h => by omega) (fun h => by omega) (fun h => by omega)), Below.refl _ _⟩
          · have h0 : a.tmps[41]?.getD undef = .pointer (some ⟨g2, 0, none⟩) := ev_get (show a.eval (.tmp 41) = .pointer (some ⟨g2, 0, none⟩) from (hdep 2 (by simp)).1)
            have y0 := (HE2.out.below HG.out.1.out).c0
            simp only at y0
            simp only [List.getElem?_toArray, List.getElem?_cons_succ, List.getElem?_cons_zero, Option.some.injEq] at ho
            subst ho
            unfold Oper.wp
            go_simp
            exact ⟨_, rfl, rfl, (moreG_upd HG.out (Below.refl _ W) HV.out (fun h => by omega) (fun h => by omega) (fun h => by omega)), Below.refl _ _⟩
          · obtain ⟨g, h3, hgB, hfu⟩ : moreF w2 g2 ⟨nA, nL, nC, mA, mL, mC, aA, aL, aC⟩ xs zs ns name n 1 (a.eval (.tmp 40)) W := (hdep 1 (by simp)).1
            have h5 : a.eval (.tmp 42) = .slice nA nL nC := (hdep 3 (by simp)).1
            have h16 := HNF.out.n
            simp only at h16
            obtain ⟨v', w', h1, h2, h4, h6⟩ := run_app_str2 (w := W) 25 g 1 [name] rfl hfu nA nL nC xs HNV2.out.nl (HNV2.out.nm.below HG.out.1.out) (by omega) w2.heap.size hgB
            obtain ⟨A, c, hvv, _⟩ := h2.str
            have hl := HNV2.out.nl
            simp only at hl
            have hlen : ([name] ++ xs).length = nL + 1 := by rw [List.length_append, hl, List.length_singleton, Nat.add_comm]
            rw [hlen] at hvv
            simp only [List.getElem?_toArray, List.getElem?_cons_succ, List.getElem?_cons_zero, Option.some.injEq] at ho
            subst ho
            unfold Oper.wp
            simp only [execOp, resolve, invoke, builtin, Sem.run_bind, Sem.run_pure, Result.andThen_ok, List.map_toArray, List.map_cons, List.map_nil, h3, h5, h1]
            refine ⟨_, rfl, ⟨A, c, hvv, h2⟩, moreG_upd HG.out h4 HV.out (fun _ u hu => ?_) (fun h => by omega) (fun h => by omega), h4⟩
            exact absurd HV.out (HCL.out 9 4 (HCL.out 13 9 (by rw [hu]; simp) (by simp) (by decide)) (by simp) (by decide))
          · have hq := ev_get (hbase 3 (by kernel_rfl))
            replace hq : a.tmps[3]?.getD undef = .int .i64 n := hq
            simp only [List.getElem?_toArray, List.getElem?_cons_succ, List.getElem?_cons_zero, Option.some.injEq] at ho
            subst ho
            unfold Oper.wp
            go_simp
            exact ⟨_, rfl, rfl, (moreG_upd HG.out (Below.refl _ W) HV.out (fun h => by omega) (fun h => by omega) (fun h => by omega)), Below.refl _ _⟩
          · have hq : a.tmps[44]?.getD undef = .int .i64 n := ev_get (show a.eval (.tmp 44) = .int .i64 n from (hdep 5 (by simp)).1)
            simp only [List.getElem?_toArray, List.getElem?_cons_succ, List.getElem?_cons_zero, Option.some.injEq] at ho
            subst ho
            unfold Oper.wp
            go_simp
            exact ⟨_, rfl, ⟨_, rfl, HG.out.1.out.size, heap_alloc_new W _⟩, (moreG_upd HG.out ((Below.refl _ W).alloc (Nat.le_refl _) _) HV.out (fun h => by omega) (fun h => by omega) (fun h => by omega)), (Below.refl _ W).alloc (Nat.le_refl _) _⟩
          · have hq := ev_get (hbase 5 (by kernel_rfl))
            replace hq : a.tmps[5]?.getD undef = .pointer (some ⟨g2, 0, none⟩) := hq
            simp only [List.getElem?_toArray, List.getElem?_cons_succ, List.getElem?_cons_zero, Option.some.injEq] at ho
            subst ho
            unfold Oper.wp
            go_simp
            exact ⟨_, rfl, rfl, (moreG_upd HG.out (Below.refl _ W) HV.out (fun h => by omega) (fun h => by omega) (fun h => by omega)), Below.refl _ _⟩
          · have h0 : a.tmps[46]?.getD undef = .pointer (some ⟨g2, 1, none⟩) := ev_get (show a.eval (.tmp 46) = .pointer (some ⟨g2, 1, none⟩) from (hdep 7 (by simp)).1)
            have y0 := (HE2.out.below HG.out.1.out).c1
            simp only at y0
            simp only [List.getElem?_toArray, List.getElem?_cons_succ, List.getElem?_cons_zero, Option.some.injEq] at ho
            subst ho
            unfold Oper.wp
            go_simp
            exact ⟨_, rfl, rfl, (moreG_upd HG.out (Below.refl _ W) HV.out (fun h => by omega) (fun h => by omega) (fun h => by omega)), Below.refl _ _⟩
          · obtain ⟨g, h3, hgB, hfu⟩ : moreF w2 g2 ⟨nA, nL, nC, mA, mL, mC, aA, aL, aC⟩ xs zs ns name n 6 (a.eval (.tmp 45)) W := (hdep 6 (by simp)).1
            have h5 : a.eval (.tmp 47) = .slice mA mL mC := (hdep 8 (by simp)).1
            have h16 := HNF.out.m
            simp only at h16
            obtain ⟨v', w', h1, h2, h4⟩ := run_app_int (w := W) 26 g 1 [n] rfl hfu mA mL mC ns HNV2.out.ml (HNV2.out.ms.below HG.out.1.out) (by omega) w2.heap.size hgB
            obtain ⟨A, c, hvv, _⟩ := h2.ints
            have hl := HNV2.out.ml
            simp only at hl
            have hlen : ([n] ++ ns).length = mL + 1 := by rw [List.length_append, hl, List.length_singleton, Nat.add_comm]
            rw [hlen] at hvv
            simp only [List.getElem?_toArray, List.getElem?_cons_succ, List.getElem?_cons_zero, Option.some.injEq] at ho
            subst ho
            unfold Oper.wp
            simp only [execOp, resolve, invoke, builtin, Sem.run_bind, Sem.run_pure, Result.andThen_ok, List.map_toArray, List.map_cons, List.map_nil, h3, h5, h1]
            exact ⟨_, rfl, ⟨A, c, hvv, h2⟩, moreG_upd HG.out h4 HV.out (fun h => by omega) (fun h => by omega) (fun h => by omega), h4⟩
          · simp only [List.getElem?_toArray, List.getElem?_cons_succ, List.getElem?_cons_zero, Option.some.injEq] at ho
            subst ho
            unfold Oper.wp
            go_simp
            exact ⟨_, rfl, ⟨_, rfl, HG.out.1.out.size, heap_alloc_new W _⟩, (moreG_upd HG.out ((Below.refl _ W).alloc (Nat.le_refl _) _) HV.out (fun h => by omega) (fun h => by omega) (fun h => by omega)), (Below.refl _ W).alloc (Nat.le_refl _) _⟩
          · have hq := ev_get (hbase 5 (by kernel_rfl))
            replace hq : a.tmps[5]?.getD undef = .pointer (some ⟨g2, 0, none⟩) := hq
            simp only [List.getElem?_toArray, List.getElem?_cons_succ, List.getElem?_cons_zero, Option.some.injEq] at ho
            subst ho
            unfold Oper.wp
            go_simp
            exact ⟨_, rfl, rfl, (moreG_upd HG.out (Below.refl _ W) HV.out (fun h => by omega) (fun h => by omega) (fun h => by omega)), Below.refl _ _⟩
          · have h0 : a.tmps[50]?.getD undef = .pointer (some ⟨g2, 2, none⟩) := ev_get (show a.eval (.tmp 50) = .pointer (some ⟨g2, 2, none⟩) from (hdep 11 (by simp)).1)
            have y0 := (HE2.out.below HG.out.1.out).c2
            simp only at y0
            simp only [List.getElem?_toArray, List.getElem?_cons_succ, List.getElem?_cons_zero, Option.some.injEq] at ho
            subst ho
            unfold Oper.wp
            go_simp
            exact ⟨_, rfl, rfl, (moreG_upd HG.out (Below.refl _ W) HV.out (fun h => by omega) (fun h => by omega) (fun h => by omega)), Below.refl _ _⟩
          · obtain ⟨g, h3, hgB, hfu⟩ : moreF w2 g2 ⟨nA, nL, nC, mA, mL, mC, aA, aL, aC⟩ xs zs ns name n 10 (a.eval (.tmp 49)) W := (hdep 10 (by simp)).1
            have h5 : a.eval (.tmp 51) = .slice aA aL aC := (hdep 12 (by simp)).1
            have h16 := HNF.out.a
            simp only at h16
            obtain ⟨v', w', h1, h2, h4, h6⟩ := run_app_str2 (w := W) 25 g 0 [] rfl hfu aA aL aC zs HNV2.out.al (HNV2.out.as_.below HG.out.1.out) (by omega) w2.heap.size hgB
            obtain ⟨A, c, hvv, _⟩ := h2.str
            have hl := HNV2.out.al
            simp only at hl
            rw [List.nil_append] at h2 hvv
            rw [hl] at hvv
            simp only [List.getElem?_toArray, List.getElem?_cons_succ, List.getElem?_cons_zero, Option.some.injEq] at ho
            subst ho
            unfold Oper.wp
            simp only [execOp, resolve, invoke, builtin, Sem.run_bind, Sem.run_pure, Result.andThen_ok, List.map_toArray, List.map_cons, List.map_nil, h3, h5, h1]
            refine ⟨_, rfl, ⟨A, c, hvv, h2⟩, moreG_upd HG.out h4 HV.out (fun h => by omega) (fun _ u hu => ?_) (fun h => by omega), h4⟩
            obtain ⟨_, _, hu1, hu2⟩ : moreF w2 g2 ⟨nA, nL, nC, mA, mL, mC, aA, aL, aC⟩ xs zs ns name n 4 u W := HALL.out 4 u hu
            rcases h6 with h6 | h6
            · exact .inr ⟨g, h6⟩
            · refine .inl fun k hk hk' => ?_
              have e1 := (World.ownsRow.lt hu2 k hk).2
              have e2 := h6 k hk'
              omega
          · obtain ⟨⟨A1, c1, h1, _⟩, q1⟩ : moreF w2 g2 ⟨nA, nL, nC, mA, mL, mC, aA, aL, aC⟩ xs zs ns name n 4 (a.eval (.tmp 43)) W ∧ vals 4 = some (a.eval (.tmp 43)) := hdep 4 (by simp)
            obtain ⟨⟨A2, c2, h2, _⟩, q2⟩ : moreF w2 g2 ⟨nA, nL, nC, mA, mL, mC, aA, aL, aC⟩ xs zs ns name n 9 (a.eval (.tmp 48)) W ∧ vals 9 = some (a.eval (.tmp 48)) := hdep 9 (by simp)
            obtain ⟨⟨A3, c3, h3, _⟩, q3⟩ : moreF w2 g2 ⟨nA, nL, nC, mA, mL, mC, aA, aL, aC⟩ xs zs ns name n 13 (a.eval (.tmp 52)) W ∧ vals 13 = some (a.eval (.tmp 52)) := hdep 13 (by simp)
            rw [h1] at q1
            rw [h2] at q2
            rw [h3] at q3
            have HQ := Lib.hid (And.intro q1 (And.intro q2 q3))
            replace h1 := ev_get h1
            replace h2 := ev_get h2
            replace h3 := ev_get h3
            clear q1 q2 q3
            simp only [List.getElem?_toArray, List.getElem?_cons_succ, List.getElem?_cons_zero, Option.some.injEq] at ho
            subst ho
            unfold Oper.wp
            go_simp
            exact ⟨_, rfl, trivial, moreG_upd HG.out (Below.refl _ W) HV.out (fun h => by omega) (fun h => by omega) (fun _ => ⟨_, _, _, HQ.out.1, HQ.out.2.1, HQ.out.2.2, rfl⟩), Below.refl _ _⟩
          · simp only [List.getElem?_toArray, List.getElem?_cons_succ, List.getElem?_cons_zero, Option.some.injEq] at ho
            subst ho
            unfold Oper.wp
            go_simp
            exact ⟨_, rfl, ⟨_, rfl, HG.out.1.out.size, EnB.new _ W ⟨none, 0, 0, none, 0, 0, none, 0, 0⟩⟩, moreG_upd HG.out ((Below.refl _ W).alloc (Nat.le_refl _) _) HV.out (fun h => by omega) (fun h => by omega) (fun h => by omega), (Below.refl _ W).alloc (Nat.le_refl _) _⟩
        · intro o ho a vals W hG hbase hdep hnn hall
          obtain ⟨⟨g13, h13, hgB, hen⟩, hv13⟩ : moreF w2 g2 ⟨nA, nL, nC, mA, mL, mC, aA, aL, aC⟩ xs zs ns name n 15 (a.eval (.tmp 13)) W ∧ vals 15 = some (a.eval (.tmp 13)) := hdep 15 (by simp)
          have hv14 : vals 14 = some (a.eval (.tmp 53)) := (hdep 14 (by simp)).2
          obtain ⟨u4, u9, u13, q4, q9, q13, h53⟩ := hG.2.2 _ hv14
          have hap := hG.2.1 u4 u13 q4 q13
          obtain ⟨A1, c1, e1, r1⟩ : moreF w2 g2 ⟨nA, nL, nC, mA, mL, mC, aA, aL, aC⟩ xs zs ns name n 4 u4 W := hall 4 u4 q4
          obtain ⟨A2, c2, e2, r2⟩ : moreF w2 g2 ⟨nA, nL, nC, mA, mL, mC, aA, aL, aC⟩ xs zs ns name n 9 u9 W := hall 9 u9 q9
          obtain ⟨A3, c3, e3, r3⟩ : moreF w2 g2 ⟨nA, nL, nC, mA, mL, mC, aA, aL, aC⟩ xs zs ns name n 13 u13 W := hall 13 u13 q13
          subst e1 e2 e3
          have HB13 := Lib.hid hG.1.out
          have hst := more_store (e := ⟨A1, nL + 1, c1, A2, mL + 1, c2, A3, aL, c3⟩) hen hgB r1 r2 r3 hap
          have HST := Lib.hid hst
          rw [h13] at hv13
          have HV13 := Lib.hid hv13
          have HGB := Lib.hid hgB
          have f0 := hen.fr 0
          have f1 := hen.fr 1
          have f2 := hen.fr 2
          have y0 := hen.c0
          have y1 := hen.c1
          have y2 := hen.c2
          simp only at y0 y1 y2
          replace h13 := ev_get h13
          replace h53 := ev_get h53
          simp only [List.getElem?_toArray, List.getElem?_cons_succ, List.getElem?_cons_zero, Option.some.injEq] at ho
          subst ho
          clear hst hG hbase hdep hnn hall hv13 hv14 q4 q9 q13 hap r1 r2 r3 hen hgB
          unfold Oper.wp
          go_simp
          intro vals' hv'
          exact ⟨g13, by rw [hv' 15 (by omega), HV13.out], ⟨⟨A1, nL + 1, c1, A2, mL + 1, c2, A3, aL, c3⟩, HST.out⟩, bel6_set (bel6_set (bel6_set HB13 HGB.out _) HGB.out _) HGB.out _⟩
        · intro vals W hF hall
          obtain ⟨g13, e', h15, hma, hbl⟩ := hF
          obtain ⟨v0, h0⟩ := Option.isSome_iff_exists.1 (hall 0 (by omega))
          obtain ⟨v1, h1⟩ := Option.isSome_iff_exists.1 (hall 1 (by omega))
          obtain ⟨v2, h2⟩ := Option.isSome_iff_exists.1 (hall 2 (by omega))
          obtain ⟨v3, h3⟩ := Option.isSome_iff_exists.1 (hall 3 (by omega))
          obtain ⟨v4, h4⟩ := Option.isSome_iff_exists.1 (hall 4 (by omega))
          obtain ⟨v5, h5⟩ := Option.isSome_iff_exists.1 (hall 5 (by omega))
          obtain ⟨v6, h6⟩ := Option.isSome_iff_exists.1 (hall 6 (by omega))
          obtain ⟨v7, h7⟩ := Option.isSome_iff_exists.1 (hall 7 (by omega))
          obtain ⟨v8, h8⟩ := Option.isSome_iff_exists.1 (hall 8 (by omega))
          obtain ⟨v9, h9⟩ := Option.isSome_iff_exists.1 (hall 9 (by omega))
          obtain ⟨v10, h10⟩ := Option.isSome_iff_exists.1 (hall 10 (by omega))
          obtain ⟨v11, h11⟩ := Option.isSome_iff_exists.1 (hall 11 (by omega))
          obtain ⟨v12, h12⟩ := Option.isSome_iff_exists.1 (hall 12 (by omega))
          obtain ⟨v13, h13⟩ := Option.isSome_iff_exists.1 (hall 13 (by omega))
          obtain ⟨v14, h14⟩ := Option.isSome_iff_exists.1 (hall 14 (by omega))
          obtain ⟨v16, h16⟩ := Option.isSome_iff_exists.1 (hall 16 (by omega))
          simp only [puts, put1, show List.range (16 + 1) = [0, 1, 2, 3, 4, 5, 6, 7, 8, 9, 10, 11, 12, 13, 14, 15, 16] from rfl, List.foldl_cons, List.foldl_nil, h0, h1, h2, h3, h4, h5, h6, h7, h8, h9, h10, h11, h12, h13, h14, h15, h16, List.getElem?_toArray, List.getElem?_cons_succ, List.getElem?_cons_zero, Act.put, List.setIfInBounds_toArray, List.set_cons_zero, List.set_cons_succ]
          clear h0 h1 h2 h3 h4 h5 h6 h7 h8 h9 h10 h11 h12 h13 h14 h15 h16 hall
          go_wp2_with fail
          go_meet
          exact ⟨g13, e', rfl, hma, hbl⟩
      case rest =>
      obtain ⟨g13, e', rfl, HMA, HBM⟩ := hcut
      have HX2B := Lib.hid HX2.out
      have HE2B := Lib.hid HE2.out
      have HX3 := Lib.hid (HX2.out.below HBM.out)
      have HE3 := Lib.hid (HE2.out.below HBM.out)
      have HB3 := Lib.hid (HB2.out.trans (HBM.out.mono HB2.out.size))
      have HRB3 := Lib.hid (HRB.out.below HBM.out)
      have HAL : Hid (zs.length = e'.aL ∧ zs.length = aL) := ⟨HMA.out.env.al, HNV2.out.al⟩
      clear HX2 HE2 HRA HRB HNV2
      go_wp2_with fail
      go_loopw [14, 15] (fun bv iv wx => ∃ (i : Nat) (b : Bool), i ≤ sn ∧ bv = .bool b ∧ iv = .int .i64 (i : Int) ∧ Hid (wx = wc) ∧ Hid (b = true ↔ name ∈ N3.take i)) (fun _ iv _ => sn - (intOf iv).toNat)
      case atStart => exact ⟨0, false, Nat.zero_le _, rfl, rfl, Lib.hid rfl, by simp [Hid]⟩
      case round =>
        obtain ⟨i, b, hi, rfl, rfl, HW, HNO⟩ := hrel
        obtain rfl : wc = wr := HW.out.symm
        by_cases him : i < sn
        · have HIM := Lib.hid him
          have him' : (i : Int) < sn := by omega
          obtain ⟨s, hs⟩ : ∃ s, N3[i]? = some s := ⟨_, List.getElem?_eq_getElem (by rw [HLN2.out.2]; exact him)⟩
          obtain ⟨g, rfl, _, _, x0, _, _⟩ := HRB3.out.at_ hs
          obtain ⟨d, hd⟩ : ∃ d, (s.toList == name.toList) = d := ⟨_, rfl⟩
          cases b
          · have hno : name ∉ N3.take i := fun h => by
              have := HNO.out.2 h
              cases this
            have HNO2 : Hid (d = true ↔ name ∈ N3.take (i + 1)) := by
              show _ ↔ _
              cases d
              · exact ⟨fun h => (by cases h), fun h => absurd h (not_snoc hno hs hd)⟩
              · exact ⟨fun _ => in_snoc hs hd, fun _ => rfl⟩
            clear hs hno
            go_wp2_with fail
            go_roundw
            case rel => exact ⟨i + 1, _, by have := HIM.out; omega, rfl, by have h1 := HIM.out; have h2 := HL.out.2; have h3 := HLN2.out.2; rw [Go.IntWalk.wrap64_in _ ⟨by omega, by omega⟩]; rfl, Lib.hid trivial, HNO2⟩
            case measure => have h1 := HIM.out; have h2 := HL.out.2; have h3 := HLN2.out.2; rw [Go.IntWalk.wrap64_in _ ⟨by omega, by omega⟩]; simp [intOf]; omega
          · have HNO2 : Hid (true = true ↔ name ∈ N3.take (i + 1)) := by
              show _ ↔ _
              refine ⟨fun _ => ?_, fun _ => rfl⟩
              rw [List.take_add_one]
              exact List.mem_append.2 (.inl (HNO.out.1 rfl))
            clear hs
            go_wp2_with fail
            go_roundw
            case rel => exact ⟨i + 1, _, by have := HIM.out; omega, rfl, by have h1 := HIM.out; have h2 := HL.out.2; have h3 := HLN2.out.2; rw [Go.IntWalk.wrap64_in _ ⟨by omega, by omega⟩]; rfl, Lib.hid trivial, HNO2⟩
            case measure => have h1 := HIM.out; have h2 := HL.out.2; have h3 := HLN2.out.2; rw [Go.IntWalk.wrap64_in _ ⟨by omega, by omega⟩]; simp [intOf]; omega
        · have him' : ¬ (i : Int) < sn := by omega
          have HNS : Hid (b = false → hasP 3 name.data.toList x = false) := fun hb => HH3.out (by
            have h := HNO.out
            rw [List.take_of_length_le (by rw [HLN2.out.2]; omega), hb] at h
            intro hm
            have := h.2 hm
            cases this)
          clear HW HNO
          go_upto_if 70 with fail
          go_cut [71] from 72 to 76 (fun _ wx => ∃ (e2 : NV) (act : List ByteArray), Hid (MoreAt wx w2.heap.size g13 e2 ([name] ++ xs) ([n] ++ ns) act) ∧ Hid (Below w2.heap.size w2 wx) ∧ Hid (∀ s, hasP 3 s x = true → (s ∈ bstr act ↔ s ∈ bstr zs)))
          case first =>
            cases b
            · have hno := HNS.out rfl
              have HACT : Hid (∀ s, hasP 3 s x = true → (s ∈ bstr (zs ++ [name]) ↔ s ∈ bstr zs)) := fun s hs => by
                unfold bstr
                rw [List.map_append, List.mem_append, List.map_singleton, List.mem_singleton]
                constructor
                · rintro (h | h)
                  · exact h
                  · rw [h, hno] at hs; cases hs
                · exact .inl
              have hfa := HNF.out.a
              simp only at hfa
              have HMS := Lib.hid (more_state HMA.out HBM.out.size name (by have := HAL.out; omega) 25)
              have y2 := HMA.out.en.c2
              clear hno hfa
              go_wp2_with (at_builtin; refine list_app rfl (.tmp 72) (.tmp 74) 25 rfl _ _ rfl rfl HMS.out ?_)
              intro v' w' c2 f2 A c hv hm hbl
              subst hv
              have HM2 := Lib.hid hm
              have HB4 := Lib.hid ((HBM.out).trans hbl)
              clear hm hbl HMS
              go_wp2_with fail
              go_meet
              exact ⟨_, _, HM2, HB4, HACT⟩
            · go_wp2_with fail
              go_meet
              exact ⟨e', zs, HMA, HBM, fun s _ => Iff.rfl⟩
          case rest =>
          obtain ⟨e2, act, HM5, HB5, HACT⟩ := hcut
          have HBW := Lib.hid (HB2.out.trans (HB5.out.mono HB2.out.size))
          have hbmc := HB5.out
          have HX5 := Lib.hid (HX2B.out.below hbmc)
          have HE5 := Lib.hid (HE2B.out.below hbmc)
          have HEVQ : Hid (evP (envP ([name] ++ xs) act ([n] ++ ns)) x = evP (envP xs zs ns) x) := evP_alone (envP xs zs ns) name.data.toList n (bstr act) x HNOT.out HACT.out
          have HC := Lib.hid (eval_any x _ _ ⟨nA, nL, nC, mA, mL, mC, aA, aL, aC⟩ xs zs ns (HNV.out _ HBW.out) (HGV.out _ HBW.out))
          obtain ⟨⟨N, E⟩, hNE⟩ : ∃ R, evP (envP xs zs ns) x = R := ⟨_, rfl⟩
          rw [hNE] at HC HEVQ
          simp only [EV.val, NV.val] at HC
          clear hNE hbmc HACT HNOT HNS HX3 HE3 HB3 HRB3 HAL HH2 HH3 HL
          have z0 := HX5.out.c0
          have z1 := HX5.out.c1
          have z2 := HX5.out.c2
          have z3 := HX5.out.c3
          have z4 := HX5.out.c4
          have z5 := HX5.out.c5
          have y0 := HE5.out.c0
          have y1 := HE5.out.c1
          have y2 := HE5.out.c2
          simp only at z0 z1 z2 z3 z4 z5 y0 y1 y2
          go_wp2_with fail
          refine HC.out.mono ?_
          rintro r w6 ⟨rfl, hb⟩
          have HX6 := Lib.hid (HX5.out.below hb)
          have HM6 := Lib.hid (HM5.out.below hb)
          have HB6 := Lib.hid (HBW.out.trans (hb.mono HBW.out.size))
          clear hb HC z0 z1 z2 z3 z4 z5 y0 y1 y2 HX5 HE5 HM5
          have HC := Lib.hid (eval_any x w6 _ e2 _ act _ HM6.out.env (HGV.out w6 HB6.out))
          rw [HEVQ.out] at HC
          simp only [EV.val, NV.val] at HC
          have z0 := HX6.out.c0
          have z1 := HX6.out.c1
          have z2 := HX6.out.c2
          have z3 := HX6.out.c3
          have z4 := HX6.out.c4
          have z5 := HX6.out.c5
          have y0 := HM6.out.en.c0
          have y1 := HM6.out.en.c1
          have y2 := HM6.out.en.c2
          simp only at z0 z1 z2 z3 z4 z5
          go_wp2_with fail
          refine HC.out.mono ?_
          rintro r w7 ⟨rfl, hb⟩
          have HB7 := Lib.hid (HB6.out.trans (hb.mono HB6.out.size))
          have q1 : (N == N) = true := beq_self_eq_true _
          have q2 : (E == E) = true := beq_self_eq_true _
          clear hb HC z0 z1 z2 z3 z4 z5 y0 y1 y2
          go_wp2_with fail
          go_ret
          exact ⟨rfl, HB7.out⟩

end Go.Proofs.YthgodhojhajahaaGreatDoor
