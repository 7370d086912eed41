/-
  The law SyntaxApart: its walk.
-/
import Derived.Test.YtcddbfdbhjkjgaaGreatDoorSvBlocks
import Derived.Test.YtcddbfdbhjkjgaaGreatDoorScCuts
namespace Go.Proofs.YtcddbfdbhjkjgaaGreatDoor
open Go.RowKit

/-- A slice of integers that came in. -/
def IsRow (k : IntKind) (w : World) (a : Option Addr) (len cap : Nat) (zs : List Int) : Prop :=
  (a = none ∧ len = 0 ∧ cap = 0 ∧ zs = []) ∨
  ∃ x, a = some x ∧ len ≤ cap ∧ cap ≤ maxLen ∧ zs.length = cap ∧ (∀ i, i < zs.length → w.cell? (x.add i) = some (.int k (zs.getD i 0))) ∧ ∀ n ∈ zs, (Lit.int k n).wf = true
theorem apT_len (g : Nat → Nat) : ∀ (v : List Tk) (i : Nat), (apT g i v).length ≤ szs v + 8 * v.length
  | [], _ => Nat.zero_le _
  | t :: v, i => by
    have h := apT_len g v (i + 1)
    have h2 : (sepN (g i)).length ≤ 8 := by
      generalize g i = k
      match k with
      | 0 => decide
      | 1 => decide
      | 2 => decide
      | k + 3 => show ([13, 10, 10] : List UInt8).length ≤ 8; decide
    have h3 : (tokTx t).length = t.sz := by
      unfold tokTx Tk.sz
      split <;> rfl
    show (tokTx t ++ sepN (g i) ++ apT g (i + 1) v).length ≤ t.sz + szs v + 8 * (v.length + 1)
    rw [List.length_append, List.length_append, h3]
    omega
theorem szs_take (v : List Tk) (i : Nat) : szs (v.take i) ≤ szs v := by
  have := szs_app (v.take i) (v.drop i)
  rw [List.take_append_drop] at this
  omega
theorem aG_symm {a b : SyAct} (h : aG false a b) : aG false b a := ⟨h.1.symm, h.2.1.symm, (sm_false _ _).2 ((sm_false _ _).1 h.2.2.1).symm, fun h => by cases h⟩
theorem asG_symm {l l' : List SyAct} (h : asG false l l') : asG false l' l := ⟨h.1.symm, fun i a b ha hb => aG_symm (h.2 i b a hb ha)⟩
theorem mG_symm {a b : SyMove} (h : mG false a b) : mG false b a := ⟨h.1.symm, h.2.1.symm, h.2.2.1.symm, h.2.2.2.1.symm, (sm_false _ _).2 ((sm_false _ _).1 h.2.2.2.2.1).symm, asG_symm h.2.2.2.2.2.1, h.2.2.2.2.2.2.1.symm, fun h => by cases h⟩
theorem msG_symm {l l' : List SyMove} (h : msG false l l') : msG false l' l := ⟨h.1.symm, fun i a b ha hb => mG_symm (h.2 i b a hb ha)⟩
mutual
theorem nG_symm : ∀ {x y : SyNode}, nG false x y → nG false y x
  | .mk k n i d e l m ks p, .mk k' n' i' d' e' l' m' ks' p', h => by
    unfold nG at h ⊢
    obtain ⟨h1, h2, h3, h4, h5, h6, h7, h8, _⟩ := h
    exact ⟨h1.symm, h2.symm, h3.symm, h4.symm, asG_symm h5, asG_symm h6, msG_symm h7, nsG_symm h8, fun h => by cases h⟩
theorem nsG_symm : ∀ {l l' : List SyNode}, nsG false l l' → nsG false l' l
  | [], [], _ => by unfold nsG; trivial
  | [], _ :: _, h => by unfold nsG at h; exact h.elim
  | _ :: _, [], h => by unfold nsG at h; exact h.elim
  | x :: l, y :: l', h => by
    unfold nsG at h ⊢
    exact ⟨nG_symm h.1, nsG_symm h.2⟩
end
theorem cG_symm {c c' : SyChart} (h : cG false c c') : cG false c' c := ⟨⟨h.1.1.symm, fun i a b ha hb => by
  obtain ⟨h1, h2, _⟩ := h.1.2 i b a hb ha
  exact ⟨h1.symm, h2.symm, fun h => by cases h⟩⟩, nG_symm h.2⟩
/-- Texts that come to the same but for places. -/
theorem er_agree {R R' : Rs SyChart} (h : R.er SyChart.er = R'.er SyChart.er) : R.fc = R'.fc ∧ cG false R.chart R'.chart := by
  cases R with
  | out =>
    cases R' with
    | out => exact ⟨rfl, cG_same _ _⟩
    | bad c p => cases h
    | ok c r => cases h
  | bad c p =>
    cases R' with
    | out => cases h
    | bad c' p' =>
      have : Rs.bad (α := SyChart) c 0 = .bad c' 0 := h
      injection this with e _
      exact ⟨e, cG_same _ _⟩
    | ok c' r' => cases h
  | ok c r =>
    cases R' with
    | out => cases h
    | bad c' p' => cases h
    | ok c' r' =>
      have : Rs.ok c.er r.er = .ok c'.er r'.er := h
      injection this with e _
      exact ⟨rfl, cG_er e⟩
theorem bel_any {u v w' w4 : World} (h : Below u.heap.size u v) (hv : Below v.heap.size v w') (h4 : Below w'.heap.size w' w4) : Below u.heap.size u w4 := h.trans ((hv.trans (h4.mono hv.size)).mono h.size)
/-- Which blanks stand behind a token. -/
def gapB (zs : List Int) (i : Nat) : Nat := match zs[i]? with
  | some z => (bits .and .i64 z 3).toNat
  | none => 0

set_option maxHeartbeats 800000 in
set_option maxRecDepth 20000 in
theorem ltoken_any (w : World) (t : Tk) (X : ByteArray) (hX : txV t.text = .string X) (hl : Lex t) :
    Calls Tryz.prog 13 #[.agg #[.int .i64 t.kind, .string X, .int .i64 t.num, .int .i64 t.at_]] w fun e w' => ∃ Y : ByteArray, e = .returned (.string Y) ∧ Y.data.toList = tokTx t ∧ Below w.heap.size w w' := by
  obtain ⟨g, hg⟩ : ∃ g, g = w.heap.size := ⟨_, rfl⟩
  obtain ⟨W, hW⟩ : ∃ W, W = w.alloc (.cells #[.int .i64 t.kind, .string X, .int .i64 t.num, .int .i64 t.at_] 45) := ⟨_, rfl⟩
  have HT : Hid (TkB W g (.int .i64 t.kind) (.string X) (.int .i64 t.num) (.int .i64 t.at_)) := by rw [hW, hg]; exact TkB.new _ _ _ _ _
  have HB : Hid (Below w.heap.size w W) := by rw [hW]; exact (Below.refl _ w).alloc (Nat.le_refl _) _
  have x0 := HT.out.c0
  have x1 := HT.out.c1
  have x2 := HT.out.c2
  by_cases hk : t.kind = 3
  · have hk' : (t.kind == 3) = true := by rw [hk]; rfl
    have HC := Lib.hid (rtext_any t.num W (by have := (hl.2 hk).1; omega) (hl.2 hk).2)
    have HTX : Hid (tokTx t = Lib.itoa t.num) := by show _ = _; unfold tokTx; rw [if_pos hk]
    clear hk hl hX
    go_enter Tryz.func13, Tryz.ntmps13
    go_upto_region 1 with fail
    rw [← hW, ← hg]
    clear hW hg
    go_wp2_with fail
    refine HC.out.mono ?_
    rintro e w1 ⟨rfl, hb⟩
    have HB1 := Lib.hid hb
    clear hb
    go_wp2_with fail
    go_ret
    exact ⟨_, rfl, by rw [HTX.out], HB.out.trans (HB1.out.mono HB.out.size)⟩
  · have hk' : (t.kind == 3) = false := beq_eq_false_iff_ne.2 hk
    have HTX : Hid (tokTx t = X.data.toList) := by
      show _ = _
      unfold tokTx
      rw [if_neg hk]
      unfold txV at hX
      injection hX with hX
      rw [← hX]
    clear hk hl hX
    go_enter Tryz.func13, Tryz.ntmps13
    go_upto_region 1 with fail
    rw [← hW, ← hg]
    clear hW hg
    go_wp2_with fail
    go_ret
    exact ⟨_, rfl, by rw [HTX.out], HB.out⟩

set_option maxHeartbeats 12800000 in
set_option maxRecDepth 20000 in
theorem apart_law (S : ByteArray) (ba : Option Addr) (bl bc : Nat) (zs : List Int) (w : World) (_h1 : S.size ≤ maxLen) (_h2 : S.size ≤ 140737488351232) (hrow : IsRow .i64 w ba bl bc zs) (_h4 : bc * 8 ≤ 140737488351232) (hK : KwAt w) (hEr : ErrAt w) (hSg : SgAt w) :
    Calls Tryz.prog 4 #[.string S, .slice ba bl bc] w fun e w' => e = .returned (.bool true) ∧ Below w.heap.size w w' := by
  have HVR : Hid (Vars w) := ⟨hK, hEr⟩
  have HVS : Hid (Vs w) := ⟨hK, hSg⟩
  have HS := Lib.hid (small7_any w HVR.out HVS.out)
  obtain ⟨R, hR⟩ : ∃ R, scF S.data.toList = R := ⟨_, rfl⟩
  have HRT := Lib.hid (fun W => rtokens_vars W S R hR)
  have HLX : Hid ((∀ t ∈ R.1, Lex t) ∧ szs R.1 ≤ S.data.toList.length) := by rw [← hR]; exact scF_lex _
  have hlen : R.1.length ≤ 16385 := by rw [← hR]; exact scF_len _
  have HAP : Hid (R.2.1 = 0 → S.data.toList.length ≤ 16384 ∧ ∃ (v : List Tk) (q : Int), R.1 = v ++ [⟨5, [], 0, q⟩] ∧ ∀ g, (apT g 0 v).length ≤ 16384 → (syF (apT g 0 v)).er SyChart.er = (syF S.data.toList).er SyChart.er) := by
    rw [← hR]
    exact fun h => ⟨sc_short h, apart_text (sc_short h) h⟩
  -- the blanks
  have HBL : Hid (∀ i, i < bl → ∃ g o z, ba = some ⟨g, o, none⟩ ∧ w.cell? ⟨g, o + i, none⟩ = some (.int .i64 z) ∧ (zs.take bl)[i]? = some z) := by
    show ∀ i, _
    intro i hi
    rcases hrow with ⟨rfl, rfl, rfl, rfl⟩ | ⟨x, rfl, hl, hm, hz, hc, hw⟩
    · omega
    · obtain ⟨g, o, spot⟩ := x
      have hspot : spot = none := by simpa [Addr.add] using World.cell?_spot (hc 0 (by omega))
      subst hspot
      have h2 := hc i (by omega)
      rw [Addr.add_lit] at h2
      refine ⟨g, o, zs.getD i 0, rfl, ?_, ?_⟩
      · rw [h2]
      · have : i < zs.length := by omega
        rw [List.getElem?_take, if_pos hi, List.getElem?_eq_getElem this]
        simp [List.getD, this]
  have HBN : Hid (∀ i, bl ≤ i → (zs.take bl)[i]? = none) := by
    show ∀ i, _
    intro i hi
    rw [List.getElem?_eq_none]
    rw [List.length_take]
    omega
  have hbm : bl ≤ 9223372036854775807 := by
    rcases hrow with ⟨rfl, rfl, rfl, rfl⟩ | ⟨x, rfl, hl, hm, hz, hc, hw⟩
    · omega
    · have : maxLen ≤ 9223372036854775807 := by decide
      omega
  obtain ⟨n, hn⟩ : ∃ n, R.1.length = n := ⟨_, rfl⟩
  obtain ⟨xs, sc, sp⟩ := R
  simp only at HRT HLX hlen HAP hn
  rw [hn] at HRT hlen
  have HNN := Lib.hid hn
  obtain ⟨zb, hzb⟩ : ∃ zb, zs.take bl = zb := ⟨_, rfl⟩
  rw [hzb] at HBL HBN
  clear hK hEr hSg _h1 _h2 hrow _h4 hR hn hzb
  go_enter Tryz.func4, Tryz.ntmps4
  go_wp2_with fail
  refine HS.out.mono ?_
  rintro e w1 ⟨rfl, hb1⟩
  have HB1 := Lib.hid hb1
  clear hb1 HS
  go_wp2_with fail
  refine (HRT.out w1).mono ?_
  rintro e w2 ⟨A, c, rfl, hA0, hnc, hcm, htr, hb⟩
  obtain ⟨g7, hg7⟩ : ∃ g, g = w2.heap.size := ⟨_, rfl⟩
  obtain ⟨W2, hW2⟩ : ∃ W, W = w2.alloc (.cells #[.int .i64 sc, .int .i64 sp] 33) := ⟨_, rfl⟩
  have hb2 : Below w2.heap.size w2 W2 := by rw [hW2]; exact (Below.refl _ w2).alloc (Nat.le_refl _) _
  have HF : Hid (FtB W2 g7 (.int .i64 sc) (.int .i64 sp)) := by rw [hW2, hg7]; exact FtB.new _ _ _
  have HTK : Hid (TkSrc W2 A n xs) := htr.reads.below hb2
  have HB2 : Hid (Below w.heap.size w W2) := HB1.out.trans ((hb.trans (hb2.mono hb.size)).mono HB1.out.size)
  have x7 := HF.out.c0
  clear hA0 htr hb hb2 HRT
  go_upto_region 3 with fail
  rw [← hW2, ← hg7]
  clear hW2 hg7
  by_cases h0 : sc = 0
  · have h0' : (sc != 0) = false := by rw [h0]; rfl
    obtain ⟨hsl, v, q, hxs, hap⟩ := HAP.out h0
    have HV := Lib.hid hxs
    have HAPT := Lib.hid hap
    have HSL := Lib.hid hsl
    have hvn : v.length + 1 = n := by have := HNN.out; rw [hxs] at this; simpa using this
    have HVN := Lib.hid hvn
    have hn1 : (n : Int) - 1 = (v.length : Int) := by omega
    have hv16 : v.length ≤ 16384 := by omega
    clear h0 hsl hxs hap hvn HAP
    go_wp2_with fail
    clear x7 h0'
    go_loopw [8, 9] (fun tv iv wr => ∃ (i : Nat) (T : ByteArray), i ≤ v.length ∧ tv = .string T ∧ iv = .int .i64 (i : Int) ∧ Hid (T.data.toList = apT (gapB zb) 0 (v.take i)) ∧ Hid (Below W2.heap.size W2 wr)) (fun _ iv _ => v.length - (intOf iv).toNat)
    case atStart => exact ⟨0, _, Nat.zero_le _, rfl, rfl, rfl, Below.refl _ _⟩
    case round =>
      obtain ⟨i, T, hi, rfl, rfl, HTL, HBW⟩ := hrel
      have hTz : T.size ≤ 16384 + 8 * 16384 := by
        have h1 := apT_len (gapB zb) (v.take i) 0
        rw [← HTL.out] at h1
        have h2 := szs_take v i
        have h3 := HLX.out.2
        rw [HV.out, szs_app] at h3
        have h4 := HSL.out
        rw [List.length_take] at h1
        rw [show T.size = T.data.toList.length from (Array.length_toList).symm]
        omega
      by_cases hiv : i < v.length
      · have him' : (i : Int) < (v.length : Int) := by omega
        have HIV := Lib.hid hiv
        obtain ⟨t, ht⟩ : ∃ t, v[i]? = some t := ⟨_, List.getElem?_eq_getElem hiv⟩
        have htx : xs[i]? = some t := by rw [HV.out, List.getElem?_append_left hiv]; exact ht
        have HTT := Lib.hid ht
        have hlt := HLX.out.1 t (List.mem_of_getElem? htx)
        obtain ⟨g, rfl, y0, y1, y2, y3⟩ := (HTK.out.below HBW.out).2 i t htx
        obtain ⟨X, hX⟩ := str_of t.text
        rw [hX] at y1
        have HTC := Lib.hid (fun W => ltoken_any W t X hX hlt)
        have htz : (tokTx t).length ≤ 16384 := by
          have h2 : t.sz ≤ szs v := by
            have e := szs_app (v.take i) (v.drop i)
            rw [List.take_append_drop, drop_cons2 ht] at e
            have : szs (t :: v.drop (i + 1)) = t.sz + szs (v.drop (i + 1)) := rfl
            omega
          have h3 := HLX.out.2
          rw [HV.out, szs_app] at h3
          have h4 := HSL.out
          have h5 : (tokTx t).length = t.sz := by
            unfold tokTx Tk.sz
            split <;> rfl
          omega
        have him2 : (i : Int) < n := by have := HVN.out; omega
        have HTZ := Lib.hid (And.intro hTz htz)
        obtain ⟨kk, hkk⟩ : ∃ kk, gapB zb i = kk := ⟨_, rfl⟩
        have HKK := Lib.hid hkk
        clear ht htx hX hlt hkk hTz htz
        have ka : ∀ ob : Obj, ∀ {p : Addr} {u : Value}, wr.cell? p = some u → (wr.alloc ob).cell? p = some u := fun ob p u hc => by rw [World.cell?_alloc_lt _ _ _ (World.block_lt_of_cell? wr _ hc)]; exact hc
        have y0' := fun ob => ka ob y0
        have y1' := fun ob => ka ob y1
        have y2' := fun ob => ka ob y2
        have y3' := fun ob => ka ob y3
        have HY := Lib.hid (And.intro y0 (And.intro y1 (And.intro y2 (And.intro y3 (And.intro y0' (And.intro y1' (And.intro y2' y3')))))))
        clear ka y0 y1 y2 y3 y0' y1' y2' y3'
        obtain ⟨db, hdb⟩ : ∃ db, decide (i < bl) = db := ⟨_, rfl⟩
        have HDB := Lib.hid hdb
        go_upto_if 40 with fail
        go_cut [10] from 41 to 45 (fun s10 wr2 => s10 = .int .i64 (kk : Int) ∧ wr2 = wr)
        case first =>
          cases db with
          | true =>
            have hib0 : i < bl := of_decide_eq_true HDB.out
            have hib : (i : Int) < (bl : Int) := by omega
            obtain ⟨gb, ob, z, rfl, hz, hzz⟩ := HBL.out i (by omega)
            have hzc : wr.cell? ⟨gb, ob + i, none⟩ = some (.int .i64 z) := by
              have h1 : W2.cell? ⟨gb, ob + i, none⟩ = some (.int .i64 z) := by rw [HB2.out.cell (World.block_lt_of_cell? w _ hz)]; exact hz
              rw [HBW.out.cell (World.block_lt_of_cell? W2 _ h1)]
              exact h1
            obtain ⟨m, hm3, hm⟩ := and_mask7 z 3 (by decide)
            replace hm : bits .and .i64 z 3 = (m : Int) := hm
            have hkm : kk = m := by
              rw [← HKK.out]
              unfold gapB
              rw [hzz]
              show (bits .and .i64 z 3).toNat = m
              rw [hm]
              rfl
            subst hkm
            clear hz hzz hm3
            go_wp2_with fail
            go_meet
            exact ⟨rfl, rfl⟩
          | false =>
            have hib0 : ¬ i < bl := of_decide_eq_false HDB.out
            have hib : ¬ (i : Int) < (bl : Int) := by omega
            have hk0 : kk = 0 := by
              rw [← HKK.out]
              unfold gapB
              rw [HBN.out i (by omega)]
            subst hk0
            go_wp2_with fail
            go_meet
            exact ⟨rfl, rfl⟩
        case rest =>
        obtain ⟨rfl, rfl⟩ := hcut
        have hk3 : kk = 0 ∨ kk = 1 ∨ kk = 2 ∨ kk = 3 := by
          have h : gapB zb i ≤ 3 := by
            unfold gapB
            split
            · rename_i z _
              obtain ⟨m, hm3, hm⟩ := and_mask7 z 3 (by decide)
              replace hm : bits .and .i64 z 3 = (m : Int) := hm
              rw [hm]
              exact hm3
            · omega
          rw [HKK.out] at h
          omega
        have HK3 := Lib.hid hk3
        clear hk3 hdb
        go_upto_region 12 with fail
        obtain ⟨W3, hW3⟩ : ∃ W, W = wc := ⟨_, rfl⟩
        rw [← hW3] at HBW HY ⊢
        clear hW3
        obtain ⟨y0, y1, y2, y3, y0', y1', y2', y3'⟩ := HY.out
        have HNX : Hid (∀ Z : List UInt8, Z = T.data.toList ++ (tokTx t ++ sepN kk) → Z = apT (gapB zb) 0 (v.take (i + 1))) := fun Z hZ => by
          have e : v.take (i + 1) = v.take i ++ [t] := by
            rw [List.take_add_one, HTT.out]
            rfl
          rw [e, apT_snoc, hZ, HTL.out, Nat.zero_add, List.length_take, Nat.min_eq_left (Nat.le_of_lt HIV.out), HKK.out]
        rcases HK3.out with rfl | rfl | rfl | rfl
        · go_region_with (go_at_call 13; refine (HTC.out _).mono ?_; rintro e w4 ⟨Y, rfl, hY, hb4⟩; have hz0 : T.size + Y.size ≤ 1000000 := (by have h1 := HTZ.out; have h2 : Y.size = Y.data.toList.length := (Array.length_toList).symm; rw [hY] at h2; omega); have hz1 : ¬ 9223372036854775807 < T.size + Y.size := (by omega); have hz2 : ¬ 9223372036854775807 < T.size + Y.size + 1 := (by omega); have hz3 : ¬ 9223372036854775807 < (T ++ Y).size + 1 := (by rw [ByteArray.size_append]; omega); (try have q0 : w4.cell? ⟨W3.heap.size, 0, none⟩ = some (.string ⟨#[10]⟩) := (hb4.cell (by simp)).trans (cell_of_row (W3.alloc (.cells #[.string ⟨#[10]⟩, .string ⟨#[32, 9]⟩, .string ⟨#[32, 47, 47, 32, 125, 32, 120, 10]⟩, .string ⟨#[13, 10, 10]⟩] 9)) W3.heap.size 0 _ _ _ (heap_alloc_new W3 _))); have HY4 := Lib.hid hY; have HB4 := Lib.hid hb4; clear hY hb4)
          all_goals
            go_wp2_with fail
            go_roundw
          all_goals first | exact ⟨i + 1, _, by have := HIV.out; omega, rfl, by go_num, HNX.out _ (by rw [← HY4.out]; simp [sepN]), by first | exact bel_any HBW.out (Below.refl _ W3).drew HB4.out | exact bel_any HBW.out ((Below.refl _ W3).alloc (Nat.le_refl _) _).drew HB4.out | exact (bel_any HBW.out (Below.refl _ W3).drew HB4.out).alloc (bel_any HBW.out (Below.refl _ W3).drew HB4.out).size _⟩ | (have := HIV.out; simp [intOf]; omega)
        · go_region_with (go_at_call 13; refine (HTC.out _).mono ?_; rintro e w4 ⟨Y, rfl, hY, hb4⟩; have hz0 : T.size + Y.size ≤ 1000000 := (by have h1 := HTZ.out; have h2 : Y.size = Y.data.toList.length := (Array.length_toList).symm; rw [hY] at h2; omega); have hz1 : ¬ 9223372036854775807 < T.size + Y.size := (by omega); have hz2 : ¬ 9223372036854775807 < T.size + Y.size + 2 := (by omega); have hz3 : ¬ 9223372036854775807 < (T ++ Y).size + 2 := (by rw [ByteArray.size_append]; omega); (try have q0 : w4.cell? ⟨W3.heap.size, 1, none⟩ = some (.string ⟨#[32, 9]⟩) := (hb4.cell (by simp)).trans (cell_of_row (W3.alloc (.cells #[.string ⟨#[10]⟩, .string ⟨#[32, 9]⟩, .string ⟨#[32, 47, 47, 32, 125, 32, 120, 10]⟩, .string ⟨#[13, 10, 10]⟩] 9)) W3.heap.size 1 _ _ _ (heap_alloc_new W3 _))); have HY4 := Lib.hid hY; have HB4 := Lib.hid hb4; clear hY hb4)
          all_goals
            go_wp2_with fail
            go_roundw
          all_goals first | exact ⟨i + 1, _, by have := HIV.out; omega, rfl, by go_num, HNX.out _ (by rw [← HY4.out]; simp [sepN]), by first | exact bel_any HBW.out (Below.refl _ W3).drew HB4.out | exact bel_any HBW.out ((Below.refl _ W3).alloc (Nat.le_refl _) _).drew HB4.out | exact (bel_any HBW.out (Below.refl _ W3).drew HB4.out).alloc (bel_any HBW.out (Below.refl _ W3).drew HB4.out).size _⟩ | (have := HIV.out; simp [intOf]; omega)
        · go_region_with (go_at_call 13; refine (HTC.out _).mono ?_; rintro e w4 ⟨Y, rfl, hY, hb4⟩; have hz0 : T.size + Y.size ≤ 1000000 := (by have h1 := HTZ.out; have h2 : Y.size = Y.data.toList.length := (Array.length_toList).symm; rw [hY] at h2; omega); have hz1 : ¬ 9223372036854775807 < T.size + Y.size := (by omega); have hz2 : ¬ 9223372036854775807 < T.size + Y.size + 8 := (by omega); have hz3 : ¬ 9223372036854775807 < (T ++ Y).size + 8 := (by rw [ByteArray.size_append]; omega); (try have q0 : w4.cell? ⟨W3.heap.size, 2, none⟩ = some (.string ⟨#[32, 47, 47, 32, 125, 32, 120, 10]⟩) := (hb4.cell (by simp)).trans (cell_of_row (W3.alloc (.cells #[.string ⟨#[10]⟩, .string ⟨#[32, 9]⟩, .string ⟨#[32, 47, 47, 32, 125, 32, 120, 10]⟩, .string ⟨#[13, 10, 10]⟩] 9)) W3.heap.size 2 _ _ _ (heap_alloc_new W3 _))); have HY4 := Lib.hid hY; have HB4 := Lib.hid hb4; clear hY hb4)
          all_goals
            go_wp2_with fail
            go_roundw
          all_goals first | exact ⟨i + 1, _, by have := HIV.out; omega, rfl, by go_num, HNX.out _ (by rw [← HY4.out]; simp [sepN]), by first | exact bel_any HBW.out (Below.refl _ W3).drew HB4.out | exact bel_any HBW.out ((Below.refl _ W3).alloc (Nat.le_refl _) _).drew HB4.out | exact (bel_any HBW.out (Below.refl _ W3).drew HB4.out).alloc (bel_any HBW.out (Below.refl _ W3).drew HB4.out).size _⟩ | (have := HIV.out; simp [intOf]; omega)
        · go_region_with (go_at_call 13; refine (HTC.out _).mono ?_; rintro e w4 ⟨Y, rfl, hY, hb4⟩; have hz0 : T.size + Y.size ≤ 1000000 := (by have h1 := HTZ.out; have h2 : Y.size = Y.data.toList.length := (Array.length_toList).symm; rw [hY] at h2; omega); have hz1 : ¬ 9223372036854775807 < T.size + Y.size := (by omega); have hz2 : ¬ 9223372036854775807 < T.size + Y.size + 3 := (by omega); have hz3 : ¬ 9223372036854775807 < (T ++ Y).size + 3 := (by rw [ByteArray.size_append]; omega); (try have q0 : w4.cell? ⟨W3.heap.size, 3, none⟩ = some (.string ⟨#[13, 10, 10]⟩) := (hb4.cell (by simp)).trans (cell_of_row (W3.alloc (.cells #[.string ⟨#[10]⟩, .string ⟨#[32, 9]⟩, .string ⟨#[32, 47, 47, 32, 125, 32, 120, 10]⟩, .string ⟨#[13, 10, 10]⟩] 9)) W3.heap.size 3 _ _ _ (heap_alloc_new W3 _))); have HY4 := Lib.hid hY; have HB4 := Lib.hid hb4; clear hY hb4)
          all_goals
            go_wp2_with fail
            go_roundw
          all_goals first | exact ⟨i + 1, _, by have := HIV.out; omega, rfl, by go_num, HNX.out _ (by rw [← HY4.out]; simp [sepN]), by first | exact bel_any HBW.out (Below.refl _ W3).drew HB4.out | exact bel_any HBW.out ((Below.refl _ W3).alloc (Nat.le_refl _) _).drew HB4.out | exact (bel_any HBW.out (Below.refl _ W3).drew HB4.out).alloc (bel_any HBW.out (Below.refl _ W3).drew HB4.out).size _⟩ | (have := HIV.out; simp [intOf]; omega)
      have him' : ¬ (i : Int) < (v.length : Int) := by omega
      obtain rfl : i = v.length := by omega
      rw [List.take_length] at HTL
      have HBT : Hid (Below w.heap.size w wr) := HB2.out.trans (HBW.out.mono HB2.out.size)
      clear hi hiv
      by_cases hl : T.size > 16384
      · have hl' : decide (T.size > 16384) = true := decide_eq_true hl
        have hl2 : (T.size : Int) > 16384 := by omega
        have hl3 : decide ((T.size : Int) > 16384) = true := decide_eq_true hl2
        clear hl
        go_wp2_with fail
        go_ret
        exact ⟨rfl, HBT.out⟩
      · have hl' : decide (T.size > 16384) = false := decide_eq_false hl
        have hl2 : ¬ (T.size : Int) > 16384 := by omega
        have hl3 : decide ((T.size : Int) > 16384) = false := decide_eq_false hl2
        obtain ⟨RA, hRA⟩ : ∃ R, syF S.data.toList = R := ⟨_, rfl⟩
        obtain ⟨RB, hRB⟩ : ∃ R, syF T.data.toList = R := ⟨_, rfl⟩
        have hag : RB.fc = RA.fc ∧ cG false RB.chart RA.chart := by
          refine er_agree ?_
          have := HAPT.out (gapB zb) (by rw [← HTL.out]; have : T.size = T.data.toList.length := (Array.length_toList).symm; omega)
          rw [← HTL.out, hRA, hRB] at this
          exact this
        have HAG : Hid (cG false RA.chart RB.chart) := cG_symm hag.2
        have hfc : (RA.fc == RB.fc) = true := by rw [hag.1]; simp
        have HCA := Lib.hid (chart_any wr S (HVR.out.below HBT.out) (HVS.out.below HBT.out) hRA)
        have HCB := Lib.hid (fun (W : World) (hb : Below w.heap.size w W) => chart_any W T (HVR.out.below hb) (HVS.out.below hb) hRB)
        clear hl hRA hRB hag
        go_wp2_with fail
        clear hl' hl2 hl3
        refine HCA.out.mono ?_
        rintro e w5 ⟨y0, y1, y2, y3, y4, y5, y6, y7, y8, y9, F5, rfl, zo, dv5, -, -, _, hb⟩
        obtain ⟨W5, ga5, gf5, hW, hg1, hg2, HC5, HF5, HB⟩ := pair_chart w5 y0 y1 y2 y3 y4 y5 y6 y7 y8 y9 RA.fc RA.fp
        have st : ∀ u ∈ [y0, y1, y2, y3, y4, y5, y6, y7, y8, y9], ∀ (w : World) (a : Addr), (store a u).run Tryz.prog w = stored Tryz.prog w a u .plain := fun u hu w a => run_store _ w a u .plain (zo u hu)
        have s0 := st y0 (by simp)
        have s1 := st y1 (by simp)
        have s2 := st y2 (by simp)
        have s3 := st y3 (by simp)
        have s4 := st y4 (by simp)
        have s5 := st y5 (by simp)
        have s6 := st y6 (by simp)
        have s7 := st y7 (by simp)
        have s8 := st y8 (by simp)
        have s9 := st y9 (by simp)
        have HDV5 := Lib.hid (dv5.below HB.out)
        have HB5 : Hid (Below w.heap.size w W5) := HBT.out.trans ((hb.trans (HB.out.mono hb.size)).mono HBT.out.size)
        clear st zo hb HB dv5
        go_upto_region 16 with fail
        rw [← hW, ← hg2, ← hg1]
        clear hW hg1 hg2 s0 s1 s2 s3 s4 s5 s6 s7 s8 s9
        obtain ⟨Y, hY⟩ : ∃ Y, [y0, y1, y2, y3, y4, y5, y6, y7, y8, y9] = Y := ⟨_, rfl⟩
        rw [hY] at HDV5 HC5
        clear HCA
        go_wp2_with fail
        refine (HCB.out _ HB5.out).mono ?_
        rintro e w6 ⟨z0, z1, z2, z3, z4, z5, z6, z7, z8, z9, F6, rfl, zo, dv6, -, -, _, hb⟩
        obtain ⟨W6, ga6, gf6, hW, hg1, hg2, HC6, HF6, HB⟩ := pair_chart w6 z0 z1 z2 z3 z4 z5 z6 z7 z8 z9 RB.fc RB.fp
        have st : ∀ u ∈ [z0, z1, z2, z3, z4, z5, z6, z7, z8, z9], ∀ (w : World) (a : Addr), (store a u).run Tryz.prog w = stored Tryz.prog w a u .plain := fun u hu w a => run_store _ w a u .plain (zo u hu)
        have s0 := st z0 (by simp)
        have s1 := st z1 (by simp)
        have s2 := st z2 (by simp)
        have s3 := st z3 (by simp)
        have s4 := st z4 (by simp)
        have s5 := st z5 (by simp)
        have s6 := st z6 (by simp)
        have s7 := st z7 (by simp)
        have s8 := st z8 (by simp)
        have s9 := st z9 (by simp)
        have HDV6 := Lib.hid (dv6.below HB.out)
        have hbb : Below W5.heap.size W5 W6 := hb.trans (HB.out.mono hb.size)
        have HB6 : Hid (Below w.heap.size w W6) := HB5.out.trans (hbb.mono HB5.out.size)
        have HF5' := Lib.hid (HF5.out.below hbb)
        have HC5' := Lib.hid (HC5.out.below hbb)
        have HDV5' := Lib.hid (HDV5.out.below hbb)
        clear hbb HF5 HC5 HDV5
        clear st zo hb HB dv6
        go_upto_region 17 with fail
        rw [← hW, ← hg2, ← hg1]
        clear hW hg1 hg2 s0 s1 s2 s3 s4 s5 s6 s7 s8 s9
        subst hY
        have HSC := Lib.hid (samechart_any W6 false true true RA.chart RB.chart _ _ _ _ HDV5'.out HDV6.out HAG.out)
        have u0 := HC5'.out.c 0 rfl
        have u1 := HC5'.out.c 1 rfl
        have u2 := HC5'.out.c 2 rfl
        have u3 := HC5'.out.c 3 rfl
        have u4 := HC5'.out.c 4 rfl
        have u5 := HC5'.out.c 5 rfl
        have u6 := HC5'.out.c 6 rfl
        have u7 := HC5'.out.c 7 rfl
        have u8 := HC5'.out.c 8 rfl
        have u9 := HC5'.out.c 9 rfl
        have v0 := HC6.out.c 0 rfl
        have v1 := HC6.out.c 1 rfl
        have v2 := HC6.out.c 2 rfl
        have v3 := HC6.out.c 3 rfl
        have v4 := HC6.out.c 4 rfl
        have v5 := HC6.out.c 5 rfl
        have v6 := HC6.out.c 6 rfl
        have v7 := HC6.out.c 7 rfl
        have v8 := HC6.out.c 8 rfl
        have v9 := HC6.out.c 9 rfl
        clear HCB
        go_wp2_with fail
        refine HSC.out.mono ?_
        rintro e w7 ⟨rfl, hb7⟩
        have HB7 := Lib.hid (HB6.out.trans (hb7.mono HB6.out.size))
        have x2 := (HF5'.out.below hb7).c0
        have x3 := (HF6.out.below hb7).c0
        clear hb7 HSC u0 u1 u2 u3 u4 u5 u6 u7 u8 u9 v0 v1 v2 v3 v4 v5 v6 v7 v8 v9
        go_wp2_with fail
        go_ret
        exact ⟨rfl, HB7.out⟩
  · have h0' : (sc != 0) = true := by simpa [bne] using h0
    clear h0 HAP
    go_wp2_with fail
    go_ret
    exact ⟨rfl, HB2.out⟩

end Go.Proofs.YtcddbfdbhjkjgaaGreatDoor
