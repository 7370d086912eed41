/-
  The document's put: a name at its place in a rising row.
-/
import Derived.Test.YthgodhojhajahaaGreatDoorVaH
import Derived.Test.YthgodhojhajahaaGreatDoorVaD
namespace Go.Proofs.YthgodhojhajahaaGreatDoor
open Go.RowKit

theorem put_split (s : List UInt8) : ∀ (k : Nat) (L : List (List UInt8)), (∀ (j : Nat) (m : List UInt8), j < k → L[j]? = some m → ltB m s = true) → k ≤ L.length → (∀ m, L[k]? = some m → ltB m s = false) →
    putP s L = (match L[k]? with | some m => if m = s then L else L.take k ++ s :: L.drop k | none => L ++ [s])
  | 0, [], _, _, _ => by simp [putP]
  | 0, m :: r, _, _, h => by
    have hm := h m rfl
    show (if ltB m s = true then m :: putP s r else if m = s then m :: r else s :: m :: r) = _
    rw [if_neg (by rw [hm]; decide)]
    rfl
  | k + 1, [], _, h, _ => by simp at h
  | k + 1, m :: r, h1, h2, h3 => by
    have hm := h1 0 m (by omega) rfl
    show (if ltB m s = true then m :: putP s r else if m = s then m :: r else s :: m :: r) = _
    rw [if_pos hm, put_split s k r (fun j t hj ht => h1 (j + 1) t (by omega) ht) (by simpa using h2) (fun t ht => h3 t ht)]
    show _ = (match r[k]? with | some t => if t = s then m :: r else m :: r.take k ++ s :: r.drop k | none => m :: r ++ [s])
    cases r[k]? with
    | none => rfl
    | some t =>
      by_cases c : t = s
      · simp only [c, if_true]
      · simp only [c, if_false]; rfl

theorem run_append_zero' {P : Program} {w : World} (t ty e : TypeId) (i : TypeInfo) (ht : P.underlying t = some (.slice e)) (hi : P.info? e = some i) (B : Option Addr) (n cap : Nat) (hnc : n ≤ cap) (A : Option Addr) (c : Nat) (hB : B = none → n = 0 ∧ cap = 0) :
    (Builtin.append_ #[t, t] ty #[.slice B n cap, .slice A 0 c]).run P w = .ok (.slice B n cap) w := by
  cases B with
  | none =>
    obtain ⟨rfl, rfl⟩ := hB rfl
    cases A <;> simp [Builtin.append_, run_underlying ht, sizeOf, typeInfo, hi, Builtin.lenOf, Builtin.firstCells, loadCells, loadCellsFrom]
  | some b => exact run_append_zero t ty e i ht hi b n cap hnc A c

set_option maxRecDepth 20000 in
/-- append(row, xs...), the row the call's own. -/
theorem run_own_str {w : World} (ty : TypeId) (base : Nat) (v : Value) (olds : List ByteArray) (hv : StRow w base v olds) (A : Option Addr) (m c : Nat) (xs : List ByteArray) (hm : xs.length = m) (hx : StrAt w A xs) (b2 : (olds.length + m) * 16 ≤ 140737488355328) (hb : base ≤ w.heap.size) :
    ∃ v' w', (Builtin.append_ #[25, 25] ty #[v, .slice A m c]).run Tryz.prog w = .ok v' w' ∧ StRow w' base v' (olds ++ xs) ∧ w.grownBy w' v.ownBlock ∧ (v'.ownBlock = v.ownBlock ∨ v'.ownBlock = some w.heap.size) := by
  obtain ⟨i0, hi, hz0, hz1, hz2⟩ := info_parts infoStr
  by_cases h0 : m = 0
  · subst h0
    obtain rfl : xs = [] := List.eq_nil_of_length_eq_zero hm
    obtain ⟨B, cap, hvv, h1, h2, _, _⟩ := hv.str
    refine ⟨v, w, ?_, by rw [List.append_nil]; exact hv, World.grownBy.refl _ _, .inl rfl⟩
    rw [hvv]
    refine run_append_zero' _ ty _ i0 Tryz.underlying25 hi B _ cap h1 A c (fun hB => ?_)
    rcases hv.2 with ⟨h3, h4⟩ | ⟨g, cap', cur, h3, _⟩
    · rw [h3] at hvv; injection hvv with _ h5 h6; exact ⟨h4, h6.symm⟩
    · rw [h3, hB] at hvv; injection hvv with h5; cases h5
  · obtain ⟨u, hu⟩ : ∃ u, xs[0]? = some u := ⟨_, List.getElem?_eq_getElem (by omega)⟩
    obtain ⟨gg, o, rfl, _, _⟩ := hx 0 u hu
    obtain ⟨v', w', h1, h2, h3, _, h5⟩ := run_append_own_at (P := Tryz.prog) w base 25 ty 9 i0 (.string ⟨#[]⟩) 1 16 Tryz.underlying25 hi hz0 hz1 hz2 rfl (by decide) v olds.length (olds.map .string) hv ⟨gg, o, none⟩ m c (xs.map .string) (by rw [List.length_map, hm, Nat.mul_one]) (fun j u hu => by
        obtain ⟨g2, o2, e2, hc⟩ := hx.cells j u hu
        injection e2 with e2
        injection e2 with e3 e4
        subst e3 e4
        rw [Addr.add_lit]
        exact hc) (fun u hu => by obtain ⟨s, _, rfl⟩ := List.mem_map.1 hu; rfl) (by unfold maxLen; omega) b2 hb
    refine ⟨v', w', h1, ?_, h3, h5⟩
    unfold StRow
    rw [List.map_append, List.length_append, hm]
    exact h2

theorem mkS_take (l : List (List UInt8)) (k : Nat) : (mkS l).take k = mkS (l.take k) := by unfold mkS; rw [List.map_take]
theorem mkS_drop (l : List (List UInt8)) (k : Nat) : (mkS l).drop k = mkS (l.drop k) := by unfold mkS; rw [List.map_drop]
theorem mkS_app (a b : List (List UInt8)) : mkS a ++ mkS b = mkS (a ++ b) := by unfold mkS; rw [List.map_append]
theorem mkS_one (s : ByteArray) : mkS [s.data.toList] = [s] := by
  unfold mkS
  show [(⟨s.data.toList.toArray⟩ : ByteArray)] = [s]
  congr 1

theorem mkS_mid (a b : List (List UInt8)) (s : ByteArray) : mkS a ++ s :: mkS b = mkS (a ++ s.data.toList :: b) := by
  have h : s :: mkS b = mkS (s.data.toList :: b) := by
    unfold mkS
    rw [List.map_cons]
  rw [h, mkS_app]

theorem StrAt.drop {w : World} {g o : Nat} {xs : List ByteArray} (h : StrAt w (some ⟨g, o, none⟩) xs) (k : Nat) : StrAt w (some ⟨g, o + k, none⟩) (xs.drop k) := fun i s hs => by
  rw [List.getElem?_drop] at hs
  obtain ⟨g', o', e, h1, h2⟩ := h (k + i) s hs
  injection e with e
  injection e with e1 e2
  subst e1 e2
  exact ⟨g, o + k, rfl, h1, by rw [Nat.add_assoc]; exact h2⟩
theorem StrAt.take {w : World} {A : Option Addr} {xs : List ByteArray} (h : StrAt w A xs) (k : Nat) : StrAt w A (xs.take k) := fun i s hs => by
  rw [List.getElem?_take] at hs
  split at hs
  · exact h i s hs
  · cases hs

theorem below_grown {B : Nat} {a b c : World} {row : Option Nat} (h : Below B a b) (hB : B ≤ b.heap.size) (hg : b.grownBy c row) (hr : ∀ k, row = some k → B ≤ k) : Below B a c :=
  ⟨hg.os.trans h.os, hg.tape.trans h.tape, hg.output.trans h.output, Nat.le_trans h.size hg.size, fun i hi => (hg.block i (by omega) (fun e => by have := hr i e.symm; omega)).trans (h.block i hi)⟩

theorem StRow.lt_own {w : World} {base : Nat} {v : Value} {xs : List ByteArray} (h : StRow w base v xs) : ∀ k, v.ownBlock = some k → base ≤ k := fun k hk => (World.ownsRow.lt h k hk).1

theorem StRow.form {w : World} {B : Nat} {A : Option Addr} {n c : Nat} {xs : List ByteArray} (h : StRow w B (.slice A n c) xs) : (A = none ∧ n = 0 ∧ c = 0 ∧ xs = []) ∨ ∃ g, A = some ⟨g, 0, none⟩ ∧ g < w.heap.size ∧ n ≤ c ∧ xs.length = n := by
  rcases h.2 with ⟨hv, h0⟩ | ⟨g, cap, cur, hv, hb, hg, hnc, _⟩
  · injection hv with h1 h2 h3
    exact .inl ⟨h1, h2, h3, List.eq_nil_of_length_eq_zero h0⟩
  · injection hv with h1 h2 h3
    exact .inr ⟨g, h1, (Array.getElem?_eq_some_iff.1 hg).1, by omega, h2.symm⟩

/-- The name between: its own row. -/
theorem mid_row {w w1 : World} {base : Nat} {v1 : Value} {olds : List ByteArray} (s : ByteArray) (h : StRow w1 base v1 olds) (hb : Below w.heap.size w w1) (he : base = w.heap.size) (hl : olds.length ≤ 1048576) (ty : TypeId) :
    Hid (∃ v' w', (Builtin.append_ #[25, 25] ty #[v1, .slice (some ⟨w1.heap.size, 0, none⟩) 1 1]).run Tryz.prog (w1.alloc (.cells #[.string s] 9)) = .ok v' w' ∧ StRow w' base v' (olds ++ [s]) ∧ Below w.heap.size w w') := by
  have ha : Below w1.heap.size w1 (w1.alloc (.cells #[.string s] 9)) := (Below.refl _ w1).alloc (Nat.le_refl _) _
  have hs := hb.size
  have hsz := ha.size
  obtain ⟨v', w', h1, h2, h3, _⟩ := run_own_str (w := w1.alloc (.cells #[.string s] 9)) ty base v1 olds (h.below ha) (some ⟨w1.heap.size, 0, none⟩) 1 1 [s] rfl (fun i u hu => by
    match i, hu with
    | 0, hu =>
      injection hu with hu
      subst hu
      refine ⟨w1.heap.size, 0, rfl, by simp, ?_⟩
      rw [cell_of_row _ _ _ _ _ _ (heap_alloc_new w1 _)]
      rfl) (by omega) (by omega)
  exact ⟨v', w', h1, h2, below_grown (hb.trans (ha.mono hs)) (by omega) h3 (fun k hk => by have := h.lt_own k hk; omega)⟩

set_option maxHeartbeats 1600000 in
set_option maxRecDepth 20000 in
theorem rput_any (w : World) (B : Nat) (A : Option Addr) (n c : Nat) (L : List (List UInt8)) (s : ByteArray) (hl : StRow w B (.slice A n c) (mkS L)) (hn : L.length = n) (hb : n ≤ 1048576) (hB : B ≤ w.heap.size) :
    Calls Tryz.prog 42 #[.slice A n c, .string s] w fun e w' => ∃ v, e = .returned v ∧ StRow w' B v (mkS (putP s.data.toList L)) ∧ Below w.heap.size w w' := by
  have HL := Lib.hid hl
  have HN := Lib.hid hn
  have hnc : n ≤ c := by
    obtain ⟨_, _, e, h1, _⟩ := hl.str
    injection e with _ h2 h3
    rw [h2, h3]
    rw [mkS_len] at h1 ⊢
    exact h1
  have HNC := Lib.hid hnc
  have HBB := Lib.hid hb
  have HB := Lib.hid hB
  clear hl hn hnc hb hB
  go_enter Tryz.func42, Tryz.ntmps42
  go_wp2_with fail
  go_loopw [5] (fun iv wr => ∃ k : Nat, k ≤ n ∧ iv = .int .i64 (k : Int) ∧ wr = w ∧ Hid (∀ (j : Nat) (m : List UInt8), j < k → L[j]? = some m → ltB m s.data.toList = true)) (fun iv _ => n - (intOf iv).toNat)
  case atStart => exact ⟨0, Nat.zero_le _, rfl, rfl, fun j m hj => by omega⟩
  case round =>
    obtain ⟨k, hk, rfl, rfl, HK⟩ := hrel
    have HKN := Lib.hid hk
    by_cases hkn : k < n
    · have HIM := Lib.hid hkn
      have hkn' : (k : Int) < n := by omega
      have hkd : decide ((k : Int) < n) = true := decide_eq_true hkn'
      obtain ⟨t, ht⟩ : ∃ t, (mkS L)[k]? = some t := ⟨_, List.getElem?_eq_getElem (by rw [mkS_len, HN.out]; exact hkn)⟩
      obtain ⟨g, rfl, hgB, hgl, x0, _, _⟩ := HL.out.at_ ht
      have htl := mkS_get ht
      obtain ⟨d, hd⟩ : ∃ d, Op.bytesLess t.toList s.toList = d := ⟨_, rfl⟩
      have hlt : ltB t.data.toList s.data.toList = d := by
        unfold ltB
        rw [← hd, Lib.toList_data, Lib.toList_data]
      cases d
      · obtain ⟨q, hq⟩ : ∃ q, (t.toList == s.toList) = q := ⟨_, rfl⟩
        have hsp := put_split s.data.toList k L HK.out (by rw [HN.out]; exact hk) (fun m hm => by rw [htl] at hm; injection hm with hm; rw [← hm]; exact hlt)
        rw [htl] at hsp
        simp only at hsp
        cases q
        · have hne : t.data.toList ≠ s.data.toList := fun h => by
            rw [Lib.toList_data, Lib.toList_data, h] at hq
            simp at hq
          rw [if_neg hne] at hsp
          have HSP := Lib.hid hsp
          have HGB := Lib.hid hgB
          -- the three appends
          have hx1 : StrAt wr (some ⟨g, 0, none⟩) (mkS L) := by
            intro i u hu
            obtain ⟨g', e, _, h1, h2, _, _⟩ := HL.out.at_ hu
            injection e with e
            injection e with e
            subst e
            exact ⟨g, 0, rfl, h1, by rw [Nat.zero_add]; exact h2⟩
          have HX1 := Lib.hid hx1
          have hbb := HBB.out
          have HR1 := Lib.hid (run_own_str (w := wr) 25 wr.heap.size (.slice none 0 0) [] (World.ownsRow_nil _ _ _ _) (some ⟨g, 0, none⟩) k c ((mkS L).take k) (by rw [List.length_take, mkS_len, HN.out]; omega) (hx1.take k) (by simp only [List.length_nil]; omega) (Nat.le_refl _))
          have hkc : k ≤ c := by have := HNC.out; omega
          have hck : ¬ c = k := by have := HNC.out; omega
          have hck2 : ¬ c - k = 0 := by omega
          have hck3 : (c == k) = false := by simpa using hck
          have hck4 : (c - k == 0) = false := by simpa using hck2
          clear hx1 hsp hne ht htl hlt hgB hbb
          go_wp2_with (at_builtin; refine list_app rfl (.tmp 34) (.tmp 37) 25 rfl _ _ rfl rfl HR1.out ?_)
          intro v1 w1 p1 p2 _
          have hb1 : Below wr.heap.size wr w1 := below_grown (Below.refl _ wr) (Nat.le_refl _) p2 (fun k hk => by cases hk)
          have HR2 := mid_row s p1 hb1 rfl (by simp only [List.length_take, mkS_len]; have := HBB.out; have := HKN.out; omega) 25
          clear p1 p2 hb1
          go_wp2_with (at_builtin; refine list_app rfl (.tmp 39) (.tmp 41) 25 rfl _ _ rfl rfl HR2.out ?_)
          intro v2 w2 p1 p2
          have HP1 := Lib.hid p1
          have HP2 := Lib.hid p2
          have hx2 : StrAt w2 (some ⟨g, 0, none⟩) (mkS L) := HX1.out.below HP2.out
          have HX3 : Hid (StrAt w2 (some ⟨g, k, none⟩) ((mkS L).drop k) ∧ StrAt w2 (some ⟨g, 0 + k, none⟩) ((mkS L).drop k)) := ⟨by have := hx2.drop k; rw [Nat.zero_add] at this; exact this, hx2.drop k⟩
          have HR3 := Lib.hid (fun (A' : Option Addr) (c' : Nat) (hA : StrAt w2 A' ((mkS L).drop k)) => run_own_str (w := w2) 25 wr.heap.size v2 _ HP1.out A' (n - k) c' _ (by rw [List.length_drop, mkS_len, HN.out]) hA (by simp only [List.length_append, List.length_take, List.length_singleton, mkS_len]; have := HBB.out; have := HKN.out; omega) HP2.out.size)
          clear hx2
          clear p1 p2
          go_wp2_with (at_builtin; refine list_app rfl (.tmp 43) (.tmp 46) 25 rfl _ _ rfl rfl (HR3.out _ _ (by first | exact HX3.out.1 | exact HX3.out.2)) ?_)
          intro v3 w3 p1 p2 p3
          have HF1 := Lib.hid p1
          have HF2 : Hid (Below wr.heap.size wr w3) := below_grown HP2.out HP2.out.size p2 (fun k hk => by have := HP1.out.lt_own k hk; omega)
          clear p1 p2 p3
          go_wp2_with fail
          go_ret
          refine ⟨_, rfl, ?_, HF2.out⟩
          have h := HF1.out.base_le HB.out
          rw [HSP.out]
          rw [mkS_take, mkS_drop, mkS_mid] at h
          exact h
        · have hqe : t.data.toList = s.data.toList := by
            have := eq_of_beq hq
            rw [Lib.toList_data, Lib.toList_data] at this
            exact this
          rw [if_pos hqe] at hsp
          have HSP := Lib.hid hsp
          clear hsp hqe ht htl hlt
          go_wp2_with fail
          go_ret
          refine ⟨_, rfl, ?_, Below.refl _ _⟩
          rw [HSP.out]
          exact HL.out
      · have HK2 : Hid (∀ (j : Nat) (m : List UInt8), j < k + 1 → L[j]? = some m → ltB m s.data.toList = true) := fun j m hj hm => by
          rcases Nat.lt_succ_iff_lt_or_eq.1 hj with h | h
          · exact HK.out j m h hm
          · rw [h, htl] at hm
            injection hm with hm
            rw [← hm]
            exact hlt
        clear ht htl hlt
        go_wp2_with fail
        go_roundw
        case rel => exact ⟨k + 1, by have := HIM.out; omega, by have h1 := HIM.out; have h2 := HBB.out; rw [Go.IntWalk.wrap64_in _ ⟨by omega, by omega⟩]; rfl, trivial, HK2⟩
        case measure => have h1 := HIM.out; have h2 := HBB.out; rw [Go.IntWalk.wrap64_in _ ⟨by omega, by omega⟩]; simp [intOf]; omega
    · have hkn' : ¬ (k : Int) < n := by omega
      have hkd : decide ((k : Int) < n) = false := decide_eq_false hkn'
      have hke : k = n := by omega
      subst hke
      have hsp := put_split s.data.toList k L HK.out (by rw [HN.out]; exact Nat.le_refl _) (fun m hm => by rw [List.getElem?_eq_none (by rw [HN.out]; exact Nat.le_refl _)] at hm; cases hm)
      rw [List.getElem?_eq_none (by rw [HN.out]; exact Nat.le_refl _)] at hsp
      have HSP : Hid (putP s.data.toList L = L ++ [s.data.toList]) := hsp
      have hq1 : decide (k < k) = false := decide_eq_false (Nat.lt_irrefl _)
      have hkc := HNC.out
      have hbb := HBB.out
      rcases HL.out.form with ⟨rfl, rfl, rfl, hL0⟩ | ⟨g, rfl, hgl, _, _⟩
      · have HL0 := Lib.hid hL0
        have HR1 : Hid (∃ v' w', (Builtin.append_ #[25, 25] 25 #[.slice none 0 0, .slice none 0 0]).run Tryz.prog wr = .ok v' w' ∧ StRow w' wr.heap.size v' ([] ++ mkS L) ∧ wr.grownBy w' (Value.slice none 0 0).ownBlock ∧ (v'.ownBlock = (Value.slice none 0 0).ownBlock ∨ v'.ownBlock = some wr.heap.size)) := by
          rw [hL0]
          exact run_own_str (w := wr) 25 wr.heap.size (.slice none 0 0) [] (World.ownsRow_nil _ _ _ _) none 0 0 [] rfl (fun i s hs => by simp at hs) (by simp) (Nat.le_refl _)
        clear hL0 hsp
        go_wp2_with (at_builtin; refine list_app rfl (.tmp 34) (.tmp 37) 25 rfl _ _ rfl rfl HR1.out ?_)
        intro v1 w1 p1 p2 _
        have hb1 : Below wr.heap.size wr w1 := below_grown (Below.refl _ wr) (Nat.le_refl _) p2 (fun k hk => by cases hk)
        have HR2 := mid_row s p1 hb1 rfl (by simp only [mkS_len]; have := HBB.out; have := HN.out; omega) 25
        clear p1 p2 hb1
        go_wp2_with (at_builtin; refine list_app rfl (.tmp 39) (.tmp 41) 25 rfl _ _ rfl rfl HR2.out ?_)
        intro v2 w2 p1 p2
        have HP1 := Lib.hid p1
        have HP2 := Lib.hid p2
        have HR3 := Lib.hid (fun (A' : Option Addr) (c' : Nat) => run_own_str (w := w2) 25 wr.heap.size v2 _ HP1.out A' 0 c' [] rfl (fun i s hs => by simp at hs) (by simp only [List.length_append, List.length_singleton, mkS_len]; have := HBB.out; have := HN.out; omega) HP2.out.size)
        clear p1 p2
        go_wp2_with (at_builtin; refine list_app rfl (.tmp 43) (.tmp 46) 25 rfl _ _ rfl rfl (HR3.out _ _) ?_)
        all_goals
          intro v3 w3 p1 p2 p3
          have HF1 := Lib.hid p1
          have HF2 : Hid (Below wr.heap.size wr w3) := below_grown HP2.out HP2.out.size p2 (fun k hk => by have := HP1.out.lt_own k hk; omega)
          clear p1 p2 p3
          go_wp2_with fail
          go_ret
          refine ⟨_, rfl, ?_, HF2.out⟩
          have h := HF1.out.base_le HB.out
          rw [HSP.out]
          rw [← mkS_one s, mkS_app] at h
          exact h
      · have hx1 : StrAt wr (some ⟨g, 0, none⟩) (mkS L) := by
          intro i u hu
          obtain ⟨g', e, _, h1, h2, _, _⟩ := HL.out.at_ hu
          injection e with e
          injection e with e
          subst e
          exact ⟨g, 0, rfl, h1, by rw [Nat.zero_add]; exact h2⟩
        have HR1 := Lib.hid (run_own_str (w := wr) 25 wr.heap.size (.slice none 0 0) [] (World.ownsRow_nil _ _ _ _) (some ⟨g, 0, none⟩) k c (mkS L) (by rw [mkS_len, HN.out]) hx1 (by simp only [List.length_nil]; omega) (Nat.le_refl _))
        have hkk : k - k = 0 := Nat.sub_self k
        clear hx1 hsp
        go_wp2_with (at_builtin; refine list_app rfl (.tmp 34) (.tmp 37) 25 rfl _ _ rfl rfl HR1.out ?_)
        intro v1 w1 p1 p2 _
        have hb1 : Below wr.heap.size wr w1 := below_grown (Below.refl _ wr) (Nat.le_refl _) p2 (fun k hk => by cases hk)
        have HR2 := mid_row s p1 hb1 rfl (by simp only [mkS_len]; have := HBB.out; have := HN.out; omega) 25
        clear p1 p2 hb1
        go_wp2_with (at_builtin; refine list_app rfl (.tmp 39) (.tmp 41) 25 rfl _ _ rfl rfl HR2.out ?_)
        intro v2 w2 p1 p2
        have HP1 := Lib.hid p1
        have HP2 := Lib.hid p2
        have HR3 := Lib.hid (fun (A' : Option Addr) (c' : Nat) => run_own_str (w := w2) 25 wr.heap.size v2 _ HP1.out A' 0 c' [] rfl (fun i s hs => by simp at hs) (by simp only [List.length_append, List.length_singleton, mkS_len]; have := HBB.out; have := HN.out; omega) HP2.out.size)
        clear p1 p2
        go_wp2_with (at_builtin; refine list_app rfl (.tmp 43) (.tmp 46) 25 rfl _ _ rfl rfl (HR3.out _ _) ?_)
        all_goals
          intro v3 w3 p1 p2 p3
          have HF1 := Lib.hid p1
          have HF2 : Hid (Below wr.heap.size wr w3) := below_grown HP2.out HP2.out.size p2 (fun k hk => by have := HP1.out.lt_own k hk; omega)
          clear p1 p2 p3
          go_wp2_with fail
          go_ret
          refine ⟨_, rfl, ?_, HF2.out⟩
          have h := HF1.out.base_le HB.out
          rw [HSP.out]
          rw [← mkS_one s, mkS_app] at h
          exact h

end Go.Proofs.YthgodhojhajahaaGreatDoor
