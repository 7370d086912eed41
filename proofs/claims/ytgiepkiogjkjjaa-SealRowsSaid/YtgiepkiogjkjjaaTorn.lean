/-
  The law SealTorn: its walk.
-/
import Derived.Test.YtgiepkiogjkjjaaTornP
namespace Go.Proofs.Ytgiepkiogjkjjaa
open Go.RowKit

def plains (ps : List Piece) : List (List Int) := ps.map (·.bs)

theorem plains_take (ps : List Piece) (k : Nat) : plains (ps.take k) = (plains ps).take k := by simp [plains, List.map_take]
theorem plains_snoc {ps : List Piece} {k : Nat} {p : Piece} (h : ps[k]? = some p) : plains (ps.take (k + 1)) = plains (ps.take k) ++ [p.bs] := by
  obtain ⟨hk, rfl⟩ := List.getElem?_eq_some_iff.1 h
  rw [List.take_succ_eq_append_getElem hk]
  unfold plains
  rw [List.map_append]
  rfl

/-- Where the frames ahead end. -/
def endsOf (ps : List Piece) (k : Nat) : List Int := (List.range k).map fun i => ((frames (plains (ps.take (i + 1)))).length : Int)

theorem endsOf_snoc (ps : List Piece) (k : Nat) : endsOf ps (k + 1) = endsOf ps k ++ [((frames (plains (ps.take (k + 1)))).length : Int)] := by
  simp [endsOf, List.range_succ]
theorem endsOf_length (ps : List Piece) (k : Nat) : (endsOf ps k).length = k := by simp [endsOf]
theorem endsOf_get (ps : List Piece) (k i : Nat) (h : i < k) : (endsOf ps k)[i]? = some ((frames (plains (ps.take (i + 1)))).length : Int) := by
  simp [endsOf, h]

theorem infoInt : (Try.prog.info? 3).map (fun i => (i.zero, i.size, i.bytes)) = some (some (.int .i64 0), 1, 8) := by kernel_rfl

/-- What has been framed so far. -/
structure TornAt (w wr : World) (ps : List Piece) (k m : Nat) (bv ev : Value) : Prop where
  short : ∀ p ∈ ps.take k, p.len ≤ 1048576
  size : m = (frames (plains (ps.take k))).length
  rows : wr.ownsRow w.heap.size 5 1 bv m ((frames (plains (ps.take k))).map (Value.int .u8))
  ends : wr.ownsRow w.heap.size 3 1 ev k ((endsOf ps k).map (Value.int .i64))
  below : Below w.heap.size w wr

theorem Src.pre {w : World} {a : Option Addr} {len cap : Nat} {bs : List Int} (h : Src w a len cap bs) (c : Nat) (hc : c ≤ len) : Src w a c cap (bs.take c) := by
  refine ⟨?_, by have := h.size; simp; omega, by have := h.small; omega, ⟨by have := h.caps; omega, h.caps.2⟩, fun x hx => h.bytes x (List.mem_of_mem_take hx)⟩
  rcases h.reads with h0 | ⟨b, off, ha, hr⟩
  · subst h0; exact .inl (by simp)
  · refine .inr ⟨b, off, ha, fun i hi => ?_⟩
    have h1 : i < c := by simp at hi; omega
    rw [hr i (by simp at hi; omega)]
    simp [List.getD, h1]

theorem plains_in {w : World} {a : Option Addr} {ps : List Piece} (h : PartsIn w a ps) {k : Nat} (hs : ∀ p ∈ ps.take k, p.len ≤ 1048576) : ∀ p ∈ plains (ps.take k), InB p ∧ p.length ≤ 1048576 := by
  intro p hp
  obtain ⟨q, hq, rfl⟩ := List.mem_map.1 hp
  have h1 := h.srcs q (List.mem_of_mem_take hq)
  exact ⟨h1.bytes, by rw [h1.size]; exact hs q hq⟩

theorem plains_at {ps : List Piece} {k i : Nat} (hi : i < k) {p : Piece} (hp : ps[i]? = some p) : (plains (ps.take k))[i]? = some p.bs := by
  rw [plains_take, List.getElem?_take_of_lt hi]
  simp [plains, hp]

/-- What Rows tells of the first c bytes. -/
theorem torn_told {w : World} {a : Option Addr} {ps : List Piece} (h : PartsIn w a ps) {k q c E : Nat} (hs : ∀ p ∈ ps.take k, p.len ≤ 1048576) (hk : k ≤ ps.length) (hq : q ≤ k) (hE : E = (frames (plains (ps.take q))).length) (hEc : E ≤ c) (hc : c ≤ (frames (plains (ps.take k))).length)
    (ha : ∀ i, q ≤ i → i < k → c < (frames (plains (ps.take (i + 1)))).length) :
    ∃ code, rw' ((frames (plains (ps.take k))).take c) = ((plains (ps.take k)).take q, E, code) ∧ ((code == 0) = decide (E = c)) ∧ ((plains (ps.take k)).take q).length = q := by
  have hlen : (plains (ps.take k)).length = k := by simp [plains]; omega
  have e1 : ∀ i, i ≤ k → (plains (ps.take k)).take i = plains (ps.take i) := fun i hi => by
    rw [plains_take, plains_take, List.take_take, Nat.min_eq_left hi]
  obtain ⟨h1, h2, h3⟩ := rw_torn (plains (ps.take k)) q c (plains_in h hs) (by rw [e1 q hq, ← hE]; exact hEc) hc (fun h => by rw [e1 (q + 1) (by omega)]; exact ha q (Nat.le_refl _) (by omega))
  rw [e1 q hq, ← hE] at h2 h3
  refine ⟨_, Prod.ext h1 (Prod.ext h2 rfl), ?_, by simp [hlen]; omega⟩
  rw [Bool.eq_iff_iff, beq_iff_eq, decide_eq_true_iff]
  exact h3

set_option maxHeartbeats 6400000 in
set_option maxRecDepth 20000 in
theorem torn_any (w : World) (a : Option Addr) (n cap : Nat) (ps : List Piece) (t : Int) (hP : PartsIn w a ps) (hnil : ∀ p ∈ ps, p.a = none → p.cap = 0) (hn : ps.length = n) (ht : t ≤ 9223372036854775807) (hnm : n ≤ 9223372036854775807) :
    Calls Try.prog 7 #[.slice a n cap, .int .i64 t] w fun e w' => e = .returned (.bool true) ∧ Below w.heap.size w w' := by
  obtain ⟨i0, hi, hz0, hz1, hz2⟩ := info_parts infoInt
  have HP := Lib.hid hP
  have HNIL := Lib.hid hnil
  have HN := Lib.hid hn
  clear hP hnil hn
  go_enter Try.func7, Try.ntmps7
  go_wp2_with fail
  go_loopw [5, 6, 7] (fun bv ev iv wr => ∃ (k m : Nat), k ≤ n ∧ k ≤ 20 ∧ iv = .int .i64 (k : Int) ∧ m ≤ 1048600 * k ∧ Hid (TornAt w wr ps k m bv ev)) (fun _ _ iv _ => 20 - (intOf iv).toNat)
  case atStart =>
    refine ⟨0, 0, Nat.zero_le _, Nat.zero_le _, rfl, Nat.zero_le _, ⟨by simp, rfl, World.ownsRow_nil _ _ _ _, World.ownsRow_nil _ _ _ _, Below.refl _ _⟩⟩
  case round =>
    obtain ⟨k, m, hk, hk20, rfl, hmk, hT⟩ := hrel
    by_cases hlt : k < n ∧ k < 20
    · obtain ⟨hkn, hkt⟩ := hlt
      obtain ⟨p, hp⟩ : ∃ p, ps[k]? = some p := ⟨_, List.getElem?_eq_getElem (by rw [HN.out]; exact hkn)⟩
      obtain ⟨pb, po, rfl, hcl0⟩ := HP.out.cells k p hp
      have hcl : wr.cell? ⟨pb, po + k, none⟩ = some p.val := by
        rw [← hcl0]
        exact World.cell?_of_block (w := w) (hT.out.below.block pb (World.block_lt_of_cell? w _ hcl0))
      have HSRC := Lib.hid (HP.out.srcs p (List.mem_of_getElem? hp))
      have HPN := Lib.hid (HNIL.out p (List.mem_of_getElem? hp))
      have HPP := Lib.hid hp
      clear hcl0 hp
      obtain ⟨pa, len, c, bs⟩ := p
      simp only [Piece.val] at hcl HSRC HPN
      have hkt' : (k : Int) < 20 := by omega
      by_cases hl : len ≤ 1048576
      · have HCS := Lib.hid (close_short wr pa len c bs (HSRC.out.below hT.out.below) HPN.out hl)
        have hfl := frame_length bs
        have hep := enc_length_pos bs.length
        have hel := enc_length bs.length (by have := HSRC.out.size; omega)
        rw [HSRC.out.size] at hfl hep hel
        obtain ⟨F, hF⟩ : ∃ F, F = frame bs := ⟨_, rfl⟩
        have HFR : Hid (∀ x ∈ F, 0 ≤ x ∧ x < 256) := by rw [hF]; exact frame_range HSRC.out.bytes
        have HPS : Hid (frames (plains (ps.take (k + 1))) = frames (plains (ps.take k)) ++ F) := by
          unfold Hid
          rw [plains_snoc HPP.out, frames_snoc, hF]
        have HSH : Hid (∀ p ∈ ps.take (k + 1), p.len ≤ 1048576) := by
          intro q hq
          have hk1 := (List.getElem?_eq_some_iff.1 HPP.out).1
          have hk2 := (List.getElem?_eq_some_iff.1 HPP.out).2
          rw [List.take_succ_eq_append_getElem hk1, hk2] at hq
          rcases List.mem_append.1 hq with hq | hq
          · exact hT.out.short q hq
          · rw [List.mem_singleton] at hq; subst hq; exact hl
        rw [← hF] at HCS hfl
        clear hF
        obtain ⟨L, hL⟩ : ∃ L, L = F.length := ⟨_, rfl⟩
        have hlf : ¬ (L : Int) < len + 5 := by omega
        have hLb : L ≤ 1048600 := by omega
        have HL := Lib.hid hL
        clear hL hfl hep hel
        go_wp2_with fail
        refine HCS.out.mono ?_
        rintro e w1 ⟨v1, rfl, hm1, hb1⟩
        obtain ⟨g1, c1, rfl, hs1⟩ := hm1.src HFR.out (by have := HL.out; omega)
        rw [← HL.out] at hs1 ⊢
        have HS1 := Lib.hid hs1
        have HB1 := Lib.hid hb1
        have hcl1 : w1.cell? ⟨pb, po + k, none⟩ = some (.slice pa len c) := by
          rw [← hcl]
          exact World.cell?_of_block (w := wr) (hb1.block pb (World.block_lt_of_cell? wr _ hcl))
        have HO1 : Hid (w1.ownsRow w.heap.size 5 1 u5 m ((frames (plains (ps.take k))).map (Value.int .u8))) := ownsRow_below hT.out.rows hb1 (fun k h => (hT.out.rows.lt k h).2)
        have HE1 : Hid (w1.ownsRow w.heap.size 3 1 u6 k ((endsOf ps k).map (Value.int .i64))) := ownsRow_below hT.out.ends hb1 (fun k h => (hT.out.ends.lt k h).2)
        have HBT := Lib.hid (hT.out.below.trans (hb1.mono hT.out.below.size))
        have HMS := Lib.hid hT.out.size
        clear hm1 hs1 hb1 hcl
        go_wp2_with (at_builtin; refine wpl_append_src rfl (.tmp 60) (.tmp 61) rfl w.heap.size _ m _ rfl HO1.out _ L c1 F HS1.out (fun h => by cases h) rfl (by omega) HBT.out.size ?_)
        intro v6 w6 own6 gr6
        have HO6 : Hid (w6.ownsRow w.heap.size 5 1 v6 (m + L) ((frames (plains (ps.take (k + 1)))).map (Value.int .u8))) := by
          unfold Hid
          rw [HPS.out, List.map_append]; exact own6
        have HE6 : Hid (w6.ownsRow w.heap.size 3 1 u6 k ((endsOf ps k).map (Value.int .i64))) := HE1.out.kept gr6 (own_apart (by decide) HO1.out HE1.out)
        have HB6 := Lib.hid (HBT.out.grown gr6 HBT.out.size (fun k h => (HO1.out.lt k h).1))
        obtain ⟨a6, c6, rfl, -, -⟩ := own_form HO6.out
        clear own6 gr6 HO1 HE1 HBT
        go_wp2_with (at_builtin; refine wpList_append_own _ rfl (.tmp 63) (.tmp 66) 37 rfl w.heap.size 3 i0 (.int .i64 0) 1 8 Try.underlying37 hi hz0 hz1 hz2 rfl (by decide) _ _ _ rfl (HE6.out.alloc _) ⟨w6.heap.size, 0, none⟩ 1 1 [.int .i64 ((m + L : Nat) : Int)] rfl rfl ?c1 ?c2 ?c3 ?c4 ?c5 ?_)
        case c1 =>
          intro i x hx
          match i, hx with
          | 0, hx => simp at hx; subst hx; simp [Addr.add]
        case c2 => intro x hx; simp at hx; subst hx; rfl
        case c3 => unfold maxLen; omega
        case c4 => omega
        case c5 => have := HB6.out.size; simp; omega
        intro v7 w7 own7 gr7 _
        have HE7 : Hid (w7.ownsRow w.heap.size 3 1 v7 (k + 1) ((endsOf ps (k + 1)).map (Value.int .i64))) := by
          unfold Hid
          rw [endsOf_snoc, HPS.out, List.length_append, ← HMS.out, ← HL.out, List.map_append]
          exact own7
        have HO7 : Hid (w7.ownsRow w.heap.size 5 1 (.slice a6 (m + L) c6) (m + L) ((frames (plains (ps.take (k + 1)))).map (Value.int .u8))) :=
          (HO6.out.alloc _).kept gr7 (own_apart (by decide) HE6.out HO6.out)
        have HB7 := Lib.hid ((HB6.out.alloc HB6.out.size _).grown gr7 (by have := HB6.out.size; simp; omega) (fun k h => (HE6.out.lt k h).1))
        have HT7 : Hid (TornAt w w7 ps (k + 1) (m + L) (.slice a6 (m + L) c6) v7) :=
          ⟨HSH.out, by rw [HPS.out, List.length_append, ← HMS.out, ← HL.out], HO7.out, HE7.out, HB7.out⟩
        clear own7 gr7 HO6 HE6 HB6 HE7 HO7 HB7 hT
        go_wp2_with fail
        go_roundw
        case rel => exact ⟨k + 1, m + L, by omega, by omega, by go_num, by omega, HT7⟩
        case measure => simp [intOf]; omega
      · have hl' : (1048576 : Int) < len := by omega
        have hsm := HSRC.out.small
        go_wp2_with fail
        refine (close_long wr pa len c (by omega)).mono ?_
        rintro e w1 ⟨rfl, rfl⟩
        go_wp2_with fail
        go_ret
        exact ⟨rfl, hT.out.below⟩
    · obtain ⟨a5, c5, rfl, hm5, hs5⟩ := own_form hT.out.rows
      obtain ⟨a6, c6, rfl, hm6, hs6⟩ := own_form hT.out.ends
      have hg : (¬ (k : Int) < n) ∨ ((k : Int) < n ∧ ¬ (k : Int) < 20) := by omega
      clear hlt
      rcases hg with e1 | ⟨e1, e2⟩
      all_goals
        go_upto_region 11 with (fail)
        go_cut [75] (fun s wx => ∃ d : Bool, s = .bool d ∧ Hid (d = decide (t < 0 ∨ (m : Int) < t)) ∧ Hid (TornAt w wx ps k m (.slice a5 m c5) (.slice a6 k c6)))
        case first =>
          by_cases h0 : t < 0
          · go_wp2_with fail
            go_meet
            exact ⟨true, rfl, by simp [Hid, h0], hT⟩
          · by_cases h1 : (m : Int) < t
            · go_wp2_with fail
              go_meet
              exact ⟨true, rfl, by simp [Hid, h1], hT⟩
            · go_wp2_with fail
              go_meet
              exact ⟨false, rfl, (decide_eq_false (by omega)).symm, hT⟩
        case rest =>
          obtain ⟨d, rfl, HD, HT⟩ := hcut
          go_upto_if 75 with (fail)
          go_cut [1] (fun s wx => ∃ c : Nat, c ≤ m ∧ s = .int .i64 (c : Int) ∧ Hid (TornAt w wx ps k m (.slice a5 m c5) (.slice a6 k c6)))
          case first =>
            cases d
            · have h1 := HD.out
              simp at h1
              obtain ⟨t2, rfl⟩ := Int.eq_ofNat_of_zero_le (by omega : 0 ≤ t)
              go_wp2_with fail
              go_meet
              exact ⟨t2, by omega, rfl, HT⟩
            · go_wp2_with fail
              go_meet
              exact ⟨m, Nat.le_refl _, rfl, HT⟩
          case rest =>
            clear HT HD e1
            obtain ⟨c, hc, rfl, HT⟩ := hcut
            obtain ⟨wf, hwf⟩ : ∃ wf : World, wf = wc := ⟨_, rfl⟩
            rw [← hwf] at HT ⊢
            clear hwf hT
            go_wp2_with fail
            go_loop [10, 11, 12] (fun qv ev jv => ∃ (j q E : Nat), j ≤ k ∧ q ≤ j ∧ jv = .int .i64 (j : Int) ∧ qv = .int .i64 (q : Int) ∧ ev = .int .i64 (E : Int) ∧ E ≤ c ∧ Hid (E = (frames (plains (ps.take q))).length) ∧ Hid (∀ i, q ≤ i → i < j → c < (frames (plains (ps.take (i + 1)))).length))
              (fun _ _ jv => k - (intOf jv).toNat)
            case atStart => exact ⟨0, 0, 0, Nat.zero_le _, Nat.le_refl _, rfl, rfl, rfl, Nat.zero_le _, rfl, fun i _ h => absurd h (by omega)⟩
            case round =>
              obtain ⟨j, q, E, hj, hqj, rfl, rfl, rfl, hE, HE, HA⟩ := hrel
              by_cases hjk : j < k
              · obtain ⟨g6, rfl⟩ := hs6 (by omega)
                obtain ⟨x, hx⟩ : ∃ x, x = (frames (plains (ps.take (j + 1)))).length := ⟨_, rfl⟩
                have hcl : wf.cell? ⟨g6, j, none⟩ = some (.int .i64 (x : Int)) := by
                  rw [HT.out.ends.cellAt j (by omega), List.getElem?_map, endsOf_get ps k j hjk, hx]
                  rfl
                have HX := Lib.hid hx
                clear hx
                by_cases hxc : x ≤ c
                · have hxc' : (x : Int) ≤ c := by omega
                  go_wp2_with fail
                  go_round
                  case rel => exact ⟨j + 1, j + 1, x, by omega, Nat.le_refl _, by go_num, by go_num, rfl, hxc, HX, fun i h1 h2 => absurd h1 (by omega)⟩
                  case measure => simp [intOf]; omega
                · have hxc' : ¬ (x : Int) ≤ c := by omega
                  have HA2 : Hid (∀ i, q ≤ i → i < j + 1 → c < (frames (plains (ps.take (i + 1)))).length) := by
                    intro i h1 h2
                    by_cases hij : i < j
                    · exact HA.out i h1 hij
                    · obtain rfl : i = j := by omega
                      rw [← HX.out]; omega
                  go_wp2_with fail
                  go_round
                  case rel => exact ⟨j + 1, q, E, by omega, by omega, by go_num, rfl, rfl, hE, HE, HA2⟩
                  case measure => simp [intOf]; omega
              · obtain rfl : j = k := by omega
                obtain ⟨code, htl, hcode, hql⟩ := torn_told HP.out HT.out.short (by rw [HN.out]; omega) hqj HE.out hE (by rw [← HT.out.size]; exact hc) HA.out
                have HSR : Hid (Src wf a5 c c5 ((frames (plains (ps.take j))).take c)) := by
                  obtain ⟨a5', c5', hv5, hs5', -⟩ := row_src HT.out.rows (frames_range (fun p hp => (plains_in HP.out HT.out.short p hp).1)) (by omega)
                  simp only [Value.slice.injEq, true_and] at hv5
                  obtain ⟨rfl, rfl⟩ := hv5
                  exact hs5'.pre c hc
                have HRW := Lib.hid (srows_any wf a5 c c5 _ HSR.out (by omega))
                rw [htl] at HRW
                have HPL : Hid (∀ i, i < q → ∃ p, ps[i]? = some p ∧ ((plains (ps.take j)).take q)[i]? = some p.bs) := by
                  intro i hi
                  have hip : i < ps.length := by rw [HN.out]; omega
                  refine ⟨ps[i], List.getElem?_eq_getElem hip, ?_⟩
                  rw [List.getElem?_take_of_lt hi]
                  exact plains_at (by omega) (List.getElem?_eq_getElem hip)
                have HB0 := Lib.hid HT.out.below
                have hcap5 : c ≤ c5 := HSR.out.caps.1
                generalize (plains (ps.take j)).take q = Q at *
                obtain ⟨d, hd⟩ : ∃ d, d = decide (E = c) := ⟨_, rfl⟩
                have hec : ((E : Int) == (c : Int)) = d := by
                  rw [hd, Bool.eq_iff_iff, beq_iff_eq, decide_eq_true_iff]; omega
                rw [← hd] at hcode
                clear hd htl HT HA HE HSR
                go_wp2_with fail
                refine HRW.out.mono ?_
                rintro e w2 ⟨rv, vals, rfl, hro, hb2⟩
                simp only at hro ⊢
                have HRO := Lib.hid hro
                have HB2 := Lib.hid (HB0.out.trans (hb2.mono HB0.out.size))
                have hrow := hro.row
                rw [hql] at hrow
                obtain ⟨ar, cr, rfl, hcr, har⟩ := own_form hrow
                have HROW := Lib.hid hrow
                clear hro hb2 hrow HRW HB0
                go_wp2_with fail
                clear hec hcode
                go_loopw [16] (fun iv wx => ∃ i m : Nat, i ≤ q ∧ iv = .int .i64 (i : Int) ∧ Hid (wx = w2.drewN m)) (fun iv _ => q - (intOf iv).toNat)
                case atStart => exact ⟨0, 0, Nat.zero_le _, rfl, rfl⟩
                case round =>
                  obtain ⟨i, mm, hi, rfl, hwx⟩ := hrel
                  by_cases hiq : i < q
                  · obtain ⟨p, hp, hpq⟩ := HPL.out i hiq
                    obtain ⟨gr, rfl⟩ := har (by omega)
                    have hiv : i < vals.length := by rw [HRO.out.len, hql]; exact hiq
                    obtain ⟨v, hv⟩ : ∃ v, vals[i]? = some v := ⟨_, List.getElem?_eq_getElem hiv⟩
                    have hov := HRO.out.own i v p.bs hv hpq
                    obtain ⟨av, cv, rfl, -, -⟩ := own_form hov
                    obtain ⟨pb, po, rfl, hcl0⟩ := HP.out.cells i p hp
                    have hc1 : wr.cell? ⟨gr, i, none⟩ = some (.slice av p.bs.length cv) := by
                      rw [hwx.out]
                      exact (HROW.out.cellAt i (by omega)).trans hv
                    have hc2 : wr.cell? ⟨pb, po + i, none⟩ = some p.val := by
                      rw [hwx.out, ← hcl0]
                      exact World.cell?_of_block (w := w) (HB2.out.block pb (World.block_lt_of_cell? w _ hcl0))
                    have s1 : ∀ n, (convert 22 9 (.slice av p.bs.length cv)).run Try.prog (wr.drewN n) = .ok (.string (strOfNums p.bs)) (wr.drewN n) := fun n => by
                      rw [hwx.out]
                      exact own_str (w := (w2.drewN mm).drewN n) hov
                    have hsp := (HP.out.srcs p (List.mem_of_getElem? hp)).below HB2.out
                    have s2 : ∀ n, (convert 22 9 p.val).run Try.prog (wr.drewN n) = .ok (.string (strOfNums p.bs)) (wr.drewN n) := fun n => by
                      rw [hwx.out]
                      exact (hsp.heap (w' := (w2.drewN mm).drewN n) rfl).str
                    have s3 := str_self (strOfNums p.bs)
                    have hin : (i : Int) < n := by omega
                    clear hov hv hcl0 hp hpq hsp hiv
                    obtain ⟨pa, pl, pc, pbs⟩ := p
                    simp only [Piece.val] at hc1 hc2 s1 s2 s3
                    go_wp2_with fail
                    go_quiet (fail)
                    go_wp2_with fail
                    go_roundw
                    case rel => exact ⟨i + 1, mm + nq, by omega, by go_num, by rw [hwx.out]; exact World.drewN_drewN _ _ _⟩
                    case measure => simp [intOf]; omega
                  · obtain rfl : i = q := by omega
                    have HB3 : Hid (Below w.heap.size w wr) := by rw [hwx.out]; exact below_drawn HB2.out mm
                    have kc := Joins.run_convert_bytes_const_at (P := Try.prog) wr 22 5 #[.int .u8 97] 1 1 _ rfl Try.underlying22 Try.underlying5
                    simp only [List.size_toArray, List.length_cons, List.length_nil, Nat.zero_add, Nat.reduceAdd] at kc
                    go_wp2_with fail
                    refine (close_short _ _ 1 1 [97] (src_made wr [97] (1, 2) 1 rfl (by omega) (by decide)) (fun h => by cases h) (by omega)).mono ?_
                    rintro e w4 ⟨v4, rfl, ⟨g4, c4, rfl, -⟩, hb4⟩
                    rw [show (frame [97]).length = 6 from by rw [frame_length]; rfl]
                    have HB4 := Lib.hid ((HB3.out.alloc HB3.out.size (.cells #[.int .u8 97] 5 (1, 2))).trans (hb4.mono (by have := HB3.out.size; simp; omega)))
                    clear kc hb4
                    go_wp2_with fail
                    go_ret
                    exact ⟨rfl, HB4.out⟩

end Go.Proofs.Ytgiepkiogjkjjaa
