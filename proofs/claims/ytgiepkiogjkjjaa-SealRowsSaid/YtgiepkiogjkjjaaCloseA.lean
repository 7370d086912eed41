/-
  What Close calls: tail, slices.Grow, slices.Concat.
-/
import Derived.Test.YtgiepkiogjkjjaaSums
import Derived.Lib.AppendZerosOnto
namespace Go.Proofs.Ytgiepkiogjkjjaa
open Go.RowKit

theorem be4_vals (s : Nat) (hs : s < 4294967296) : (be4 s).map (Value.int .u8) = [.int .u8 ((s : Int) / 16777216), .int .u8 ((s : Int) / 65536 % 256), .int .u8 ((s : Int) / 256 % 256), .int .u8 ((s : Int) % 256)] := by
  unfold be4
  simp only [List.map_cons, List.map_nil]
  rw [show ((s / 16777216 % 256 : Nat) : Int) = (s : Int) / 16777216 by omega, show ((s / 65536 % 256 : Nat) : Int) = (s : Int) / 65536 % 256 by omega,
    show ((s / 256 % 256 : Nat) : Int) = (s : Int) / 256 % 256 by omega, show ((s % 256 : Nat) : Int) = (s : Int) % 256 by omega]

set_option maxRecDepth 20000 in
theorem tail_any (s : Nat) (w : World) (hs : s < 4294967296) :
    Calls Try.prog 24 #[.int .u32 (s : Int)] w fun e w' =>
      e = .returned (.slice (some ⟨w.heap.size, 0, none⟩) 4 4) ∧ w' = w.alloc (.cells ((be4 s).map (Value.int .u8)).toArray 5) := by
  have HV := Lib.hid (be4_vals s hs)
  go_enter Try.func24, Try.ntmps24
  go_wp2_with fail
  go_ret
  rw [HV.out]
  exact ⟨rfl, rfl⟩

set_option maxHeartbeats 800000 in
set_option maxRecDepth 20000 in
theorem grow_any (n : Nat) (w : World) (h0 : 0 < n) (hn : n ≤ 1000000000) :
    Calls Try.prog 30 #[.slice none 0 0, .int .i64 (n : Int)] w fun e w' =>
      ∃ cap, e = .returned (.slice (some ⟨w.heap.size, 0, none⟩) 0 cap) ∧ cap ≤ maxLen ∧ w'.ownsRow w.heap.size 5 1 (.slice (some ⟨w.heap.size, 0, none⟩) 0 cap) 0 [] ∧ Below w.heap.size w w' := by
  obtain ⟨i0, hi, hz0, hz1, hz2⟩ := info_parts infoU8
  have h4 : (0 : Int) < n := by omega
  have hold : (Builtin.firstCells i0.size 0 (.slice none 0 0)).run Try.prog w.drew = .ok (([] : List Value).toArray) w.drew := run_firstCells_none w.drew i0.size 0 0 0
  have hrz : ∀ ty, (Builtin.append_ #[22, 3] ty #[.slice none 0 0, .int .i64 (n : Int)]).run Try.prog w =
      .ok (.slice (some ⟨w.heap.size, 0, none⟩) n (grownCap w n 0 5)) (w.drew.alloc (.cells (#[] ++ Builtin.zeroCells (Value.int .u8 0).cells n ++ Builtin.zeroCells (Value.int .u8 0).cells (grownCap w n 0 5 - n)) 5)) := fun ty => by
    have h := Lib.run_append_grow_zeros w 22 3 ty 5 i0 (.int .u8 0) .i64 .i64 Try.underlying22 Try.underlying3 hi hz0 none 0 0 [] hold n (by omega) (by omega) (by omega) (by omega)
      (by rw [hz2]; omega)
      (by rw [Nat.zero_add]; exact growslice_fits h0 (by rw [hz2]; omega))
    rw [Nat.zero_add] at h
    exact h
  obtain ⟨G, hG⟩ : ∃ G, G = grownCap w n 0 5 := ⟨_, rfl⟩
  have hGn : n ≤ G := by rw [hG]; exact grownCap_ge w _ _ _
  have hGm : G ≤ maxLen := by rw [hG]; exact grownCap_le_maxLen w n 0 5 (by unfold maxLen; omega)
  rw [← hG] at hrz
  obtain ⟨cur, hcur⟩ : ∃ cur : Array Value, cur = #[] ++ Builtin.zeroCells (Value.int .u8 0).cells n ++ Builtin.zeroCells (Value.int .u8 0).cells (G - n) := ⟨_, rfl⟩
  rw [← hcur] at hrz
  have hsz : cur.size = G * 1 := by
    rw [hcur]
    simp only [Array.size_append, size_zeroCells, Value.cells, List.size_toArray, List.length_cons, List.length_nil]
    omega
  have HOWN : Hid ((w.drew.alloc (.cells cur 5)).ownsRow w.heap.size 5 1 (.slice (some ⟨w.heap.size, 0, none⟩) 0 G) 0 []) :=
    World.ownsRow_made w.drew cur G (Nat.le_refl _) hGm hsz
  have HGM := Lib.hid hGm
  unfold maxLen at hGm
  clear hG hcur hsz hold
  go_enter Try.func30, Try.ntmps30
  go_wp2_with (at_builtin; refine Lib.wpList_append_run _ rfl _ _ _ _ rfl _ _ rfl rfl _ _ (hrz _) ?_)
  go_ret
  exact ⟨G, rfl, HGM.out, HOWN.out, ((Below.refl _ w).drew).alloc (Nat.le_refl _) _⟩

theorem flat_le (ps : List Piece) (k : Nat) : (flat (ps.take k)).length ≤ (flat ps).length := by
  conv => rhs; rw [← List.take_append_drop k ps]
  unfold flat
  rw [List.flatMap_append, List.length_append]
  omega

set_option maxHeartbeats 1600000 in
set_option maxRecDepth 20000 in
theorem concat_any (w : World) (n cap : Nat) (pa : Option Addr) (ps : List Piece) (hP : PartsIn w pa ps) (hnil : ∀ p ∈ ps, p.a = none → p.cap = 0) (hn : ps.length = n) (hs : n ≤ 1000000000)
    (ht : (flat ps).length ≤ 1000000000) (h0 : 0 < (flat ps).length) :
    Calls Try.prog 23 #[.slice pa n cap] w fun e w' =>
      ∃ v, e = .returned v ∧ Made w' w.heap.size v (flat ps) ∧ Below w.heap.size w w' := by
  have HP := Lib.hid hP
  have HNIL := Lib.hid hnil
  have HN := Lib.hid hn
  clear hP hnil hn
  go_enter Try.func23, Try.ntmps23
  go_wp2_with fail
  go_loop [3, 11] (fun sv iv => ∃ (k t : Nat), k ≤ n ∧ iv = .int .i64 (k : Int) ∧ sv = .int .i64 (t : Int) ∧ t ≤ 1000000000 ∧ Hid (t = (flat (ps.take k)).length)) (fun _ iv => n - (intOf iv).toNat)
  case atStart => exact ⟨0, 0, Nat.zero_le _, rfl, rfl, by omega, rfl⟩
  case round =>
    obtain ⟨k, t, hk, rfl, rfl, htb, htt⟩ := hrel
    by_cases hlt : k < n
    · obtain ⟨p, hp⟩ : ∃ p, ps[k]? = some p := ⟨_, List.getElem?_eq_getElem (by rw [HN.out]; exact hlt)⟩
      obtain ⟨pb, po, rfl, hcl⟩ := HP.out.cells k p hp
      have HFL := Lib.hid (flat_take hp)
      have HLE := Lib.hid (flat_le ps (k + 1))
      have HPS := Lib.hid (HP.out.srcs p (List.mem_of_getElem? hp)).size
      clear hp
      obtain ⟨a, len, c, bs⟩ := p
      simp only [Piece.val] at hcl HFL HPS
      have hsum : t + len ≤ 1000000000 := by
        have e1 := HLE.out
        have e2 := htt.out
        have e3 := HPS.out
        rw [HFL.out, List.length_append] at e1
        omega
      have HT2 : Hid (t + len = (flat (ps.take (k + 1))).length) := by
        have e2 := htt.out
        have e3 := HPS.out
        unfold Hid
        rw [HFL.out, List.length_append]; omega
      clear htt HFL HLE HPS
      go_wp2_with fail
      go_round
      case rel => exact ⟨k + 1, t + len, by omega, by go_num, by go_num, by omega, HT2⟩
      case measure => simp [intOf]; omega
    · obtain rfl : k = n := by omega
      have htt2 : t = (flat ps).length := by
        have e := htt.out
        rw [List.take_of_length_le (by rw [HN.out]; exact Nat.le_refl _)] at e
        exact e
      have ht0 : 0 < t := by omega
      have HTT := Lib.hid htt2
      clear htt htt2
      go_wp2_with fail
      refine (grow_any t w ht0 htb).mono ?_
      rintro e w1 ⟨gc, rfl, hgm, hown, hb⟩
      have HO := Lib.hid hown
      have HB := Lib.hid hb
      clear hown hb hgm
      go_wp2_with fail
      go_loopw [6, 27] (fun sv iv wr => ∃ (j m : Nat), j ≤ k ∧ iv = .int .i64 (j : Int) ∧ m ≤ 1000000000 ∧ Hid (m = (flat (ps.take j)).length) ∧ Hid (wr.ownsRow w.heap.size 5 1 sv m ((flat (ps.take j)).map (Value.int .u8))) ∧ Hid (Below w.heap.size w wr))
        (fun _ iv _ => k - (intOf iv).toNat)
      case atStart => exact ⟨0, 0, Nat.zero_le _, rfl, by omega, rfl, HO, HB⟩
      case round =>
        obtain ⟨j, m, hj, rfl, hmb, hm, hown, hbr⟩ := hrel
        by_cases hjk : j < k
        · obtain ⟨p, hp⟩ : ∃ p, ps[j]? = some p := ⟨_, List.getElem?_eq_getElem (by rw [HN.out]; exact hjk)⟩
          obtain ⟨pb, po, rfl, hcl0⟩ := HP.out.cells j p hp
          have HFL := Lib.hid (flat_take hp)
          have HLE := Lib.hid (flat_le ps (j + 1))
          have HPS := Lib.hid (HP.out.srcs p (List.mem_of_getElem? hp))
          have HPN := Lib.hid (HNIL.out p (List.mem_of_getElem? hp))
          have hcl : wr.cell? ⟨pb, po + j, none⟩ = some p.val := by
            rw [← hcl0]
            exact World.cell?_of_block (w := w) (hbr.out.block pb (World.block_lt_of_cell? w _ hcl0))
          clear hp hcl0
          obtain ⟨a, len, c, bs⟩ := p
          simp only [Piece.val] at hcl HFL HPS HPN
          have hsum : m + len ≤ 1000000000 := by
            have e1 := HLE.out
            have e2 := hm.out
            have e3 := HPS.out.size
            rw [HFL.out, List.length_append] at e1
            omega
          have HT2 : Hid (m + len = (flat (ps.take (j + 1))).length) := by
            have e2 := hm.out
            have e3 := HPS.out.size
            unfold Hid
            rw [HFL.out, List.length_append]; omega
          clear HLE
          go_wp2_with (at_builtin; refine wpl_append_src rfl (.tmp 31) (.tmp 32) rfl w.heap.size _ _ _ rfl hown.out a len c bs (HPS.out.below hbr.out) HPN.out rfl (by omega) hbr.out.size ?_)
          intro v6 w6 own6 gr6
          have HO6 : Hid (w6.ownsRow w.heap.size 5 1 v6 (m + len) ((flat (ps.take (j + 1))).map (Value.int .u8))) := by unfold Hid; rw [HFL.out, List.map_append]; exact own6
          have HB6 := Lib.hid (hbr.out.grown gr6 hbr.out.size (fun k h => (hown.out.lt k h).1))
          clear own6 gr6 hown hbr HFL
          go_wp2_with fail
          go_roundw
          case rel => exact ⟨j + 1, m + len, by omega, by go_num, by omega, HT2, HO6, HB6⟩
          case measure => simp [intOf]; omega
        · obtain rfl : j = k := by omega
          have hm2 : Made wr w.heap.size u6 (flat ps) := by
            have e := hown.out
            rw [List.take_of_length_le (by rw [HN.out]; exact Nat.le_refl _)] at e
            exact made_of e h0
          have HM := Lib.hid hm2
          clear hm2 hown
          go_wp2_with fail
          go_ret
          exact ⟨_, rfl, HM.out, hbr.out⟩

end Go.Proofs.Ytgiepkiogjkjjaa
