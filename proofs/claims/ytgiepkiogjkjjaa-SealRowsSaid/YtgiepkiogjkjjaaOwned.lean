/-
  The law's own helpers Kept and Owned.
-/
import Derived.Test.YtgiepkiogjkjjaaLent
namespace Go.Proofs.Ytgiepkiogjkjjaa
open Go.RowKit

set_option maxRecDepth 20000 in
theorem kept_any (w : World) (g : Nat) (a : Option Addr) (len cap : Nat) (bs : List Int) (h : Src w a len cap bs) (hb : BlockIs w g (bs ++ [77])) :
    Calls Try.prog 12 #[.slice (some ⟨g, 0, none⟩) len (len + 1), .slice a len cap] w fun e w' => e = .returned (.bool true) ∧ w = w' := by
  have hsz := h.size
  have hsm := h.small
  have hl1 : len ≤ (bs ++ [77]).length := by rw [List.length_append, hsz]; omega
  have hl2 : (bs ++ [77]).length ≤ 1000000000000000 + 1 := by rw [List.length_append, hsz, List.length_singleton]; omega
  have s1 := fun c' => (hb.src len hl1 hl2 (fun x hx => by
    rcases List.mem_append.1 hx with hx | hx
    · exact h.bytes x hx
    · rw [List.mem_singleton] at hx; subst hx; exact ⟨by decide, by decide⟩)).front len c' (Nat.le_refl _)
  have s2 := fun c' => h.front len c' (Nat.le_refl _)
  have e1 : ((bs ++ [77]).take len).take len = bs := by rw [List.take_take, Nat.min_self, ← hsz]; simp
  have e2 : bs.take len = bs := by rw [← hsz]; simp
  rw [e1] at s1
  rw [e2] at s2
  have hc : w.cell? ⟨g, len, none⟩ = some (.int .u8 77) := by
    rw [hb.cell len (by simp; omega), ← hsz]; simp [List.getD]
  have hs := str_self (strOfNums bs)
  clear hb h e1 e2 hsz hl1 hl2
  go_enter Try.func12, Try.ntmps12
  go_wp2_with fail
  go_ret
  exact ⟨rfl, rfl⟩

/-- A row of bytes in memory of one's own: nil, or a block of which it has all cells. -/
def OwnB (w : World) (v : Value) (g c : Nat) : Prop :=
  (v = .slice none 0 0 ∧ c = 0) ∨ ∃ n, v = .slice (some ⟨g, 0, none⟩) n c ∧ n ≤ c ∧ ∃ cur : Array Value, w.heap[g]? = some (.cells cur 5 (0, 0)) ∧ cur.size = c

/-- The same, all its cells one number. -/
def FillB (w : World) (v : Value) (g c : Nat) (x : Int) : Prop :=
  (v = .slice none 0 0 ∧ c = 0) ∨ ∃ n, v = .slice (some ⟨g, 0, none⟩) n c ∧ n ≤ c ∧ w.heap[g]? = some (.cells (List.replicate c (Value.int .u8 x)).toArray 5 (0, 0))

/-- The rows that Owned is handed: their header's cells, their blocks, one from another. -/
structure Rows4 (w : World) (B R N : Nat) (V : Nat → Value) (G C : Nat → Nat) : Prop where
  head : ∀ i, i < N → w.cell? ⟨R, i, none⟩ = some (V i)
  own : ∀ i, i < N → OwnB w (V i) (G i) (C i)
  far : ∀ i, i < N → V i ≠ .slice none 0 0 → B ≤ G i ∧ G i ≠ R
  apart : ∀ i j, i < N → j < N → i ≠ j → V i ≠ .slice none 0 0 → V j ≠ .slice none 0 0 → G i ≠ G j
  small : ∀ i, i < N → C i ≤ 9223372036854775807

theorem OwnB.same {w w' : World} {v : Value} {g c : Nat} (h : OwnB w v g c) (hh : v ≠ .slice none 0 0 → w'.heap[g]? = w.heap[g]?) : OwnB w' v g c := by
  rcases h with h | ⟨n, hv, hn, cur, hg, hs⟩
  · exact .inl h
  · exact .inr ⟨n, hv, hn, cur, by rw [hh (by rw [hv]; simp)]; exact hg, hs⟩

theorem FillB.same {w w' : World} {v : Value} {g c : Nat} {x : Int} (h : FillB w v g c x) (hh : v ≠ .slice none 0 0 → w'.heap[g]? = w.heap[g]?) : FillB w' v g c x := by
  rcases h with h | ⟨n, hv, hn, hg⟩
  · exact .inl h
  · exact .inr ⟨n, hv, hn, by rw [hh (by rw [hv]; simp)]; exact hg⟩

/-- How far the first loop has come: the rows ahead of i are filled, those from i on are as they were; the header stays. -/
def Till (w wr : World) (B R N : Nat) (V : Nat → Value) (G C : Nat → Nat) (i : Nat) : Prop :=
  (∀ j, j < i → j < N → FillB wr (V j) (G j) (C j) ((j : Int) + 1)) ∧ (∀ j, i ≤ j → j < N → OwnB wr (V j) (G j) (C j)) ∧ (∀ j, j < N → wr.cell? ⟨R, j, none⟩ = some (V j)) ∧ Below B w wr ∧ ∀ k, (∀ i, i < N → V i ≠ .slice none 0 0 → k ≠ G i) → wr.heap[k]? = w.heap[k]?

/-- In the middle of a row: its first k cells are written. -/
def Mid (w : World) (g c k : Nat) (x : Int) : Prop :=
  ∃ cur : Array Value, w.heap[g]? = some (.cells cur 5 (0, 0)) ∧ cur.size = c ∧ cur.toList.take k = List.replicate k (Value.int .u8 x)

theorem Mid.step {w : World} {g c k : Nat} {x : Int} (h : Mid w g c k x) (hk : k < c) : Mid (w.setCell ⟨g, k, none⟩ (.int .u8 x)) g c (k + 1) x := by
  obtain ⟨cur, hg, hs, ht⟩ := h
  refine ⟨cur.setIfInBounds k (.int .u8 x), heap_setCell_row hg, by simpa using hs, ?_⟩
  have hl : k < cur.toList.length := by simp; omega
  rw [Array.toList_setIfInBounds, List.take_set, List.take_succ_eq_append_getElem hl, ht, List.set_append_right _ _ (by simp)]
  simp [List.replicate_succ']

theorem Mid.cell {w : World} {g c k : Nat} {x : Int} (h : Mid w g c k x) (hk : k < c) : ∃ v, w.cell? ⟨g, k, none⟩ = some v := by
  obtain ⟨cur, hg, hs, ht⟩ := h
  exact ⟨cur[k], by rw [cell_of_row w g k _ _ _ hg]; simp [hs, hk]⟩

theorem Mid.free {w : World} {g c k : Nat} {x : Int} (h : Mid w g c k x) (i : Nat) : w.frozen? ⟨g, i, none⟩ = false := by
  obtain ⟨cur, hg, hs, ht⟩ := h
  exact frozen_of_row w g i _ _ hg

theorem Mid.full {w : World} {g c : Nat} {x : Int} (h : Mid w g c c x) : w.heap[g]? = some (.cells (List.replicate c (Value.int .u8 x)).toArray 5 (0, 0)) := by
  obtain ⟨cur, hg, hs, ht⟩ := h
  rw [hg]
  congr 2
  apply Array.ext'
  rw [List.take_of_length_le (by simp; omega)] at ht
  rw [ht]

theorem Rows4.start {w : World} {B R N : Nat} {V : Nat → Value} {G C : Nat → Nat} (h : Rows4 w B R N V G C) : Till w w B R N V G C 0 :=
  ⟨fun j hj => absurd hj (by omega), fun j _ hj => h.own j hj, h.head, Below.refl _ _, fun _ _ => rfl⟩

/-- A row has been filled: the rows ahead of the next one are. -/
theorem Rows4.next {w wr w2 : World} {B R N : Nat} {V : Nat → Value} {G C : Nat → Nat} (h : Rows4 w B R N V G C) {i n : Nat} (hi : i < N) (ht : Till w wr B R N V G C i)
    (hv : V i = .slice (some ⟨G i, 0, none⟩) n (C i)) (hn : n ≤ C i) (hm : Mid w2 (G i) (C i) (C i) ((i : Int) + 1)) (ho : ∀ k, k ≠ G i → w2.heap[k]? = wr.heap[k]?) (hb : Below B wr w2) : Till w w2 B R N V G C (i + 1) := by
  have hvn : V i ≠ .slice none 0 0 := by rw [hv]; simp
  refine ⟨fun j hj hjN => ?_, fun j hj hjN => ?_, fun j hj => ?_, ht.2.2.2.1.trans hb, fun k hk => (ho k (hk i hi hvn)).trans (ht.2.2.2.2 k hk)⟩
  · by_cases e : j = i
    · subst e; exact .inr ⟨n, hv, hn, hm.full⟩
    · exact (ht.1 j (by omega) hjN).same (fun hne => ho _ (h.apart j i hjN hi e hne hvn))
  · exact (ht.2.1 j (by omega) hjN).same (fun hne => ho _ (h.apart j i hjN hi (by omega) hne hvn))
  · rw [← ht.2.2.1 j hj]
    exact World.cell?_of_block (w := wr) (ho R (fun e => (h.far i hi hvn).2 e.symm))

theorem Till.skip {w wr : World} {B R N : Nat} {V : Nat → Value} {G C : Nat → Nat} {i : Nat} (ht : Till w wr B R N V G C i) (hv : V i = .slice none 0 0) (hc : C i = 0) (n : Nat) : Till w (wr.drewN n) B R N V G C (i + 1) := by
  refine ⟨fun j hj hjN => ?_, fun j hj hjN => ht.2.1 j (by omega) hjN, ht.2.2.1, below_drawn ht.2.2.2.1 n, ht.2.2.2.2⟩
  by_cases e : j = i
  · subst e; exact .inl ⟨hv, hc⟩
  · exact ht.1 j (by omega) hjN

set_option maxHeartbeats 1600000 in
set_option maxRecDepth 20000 in
theorem owned_any (w : World) (B R N rc : Nat) (V : Nat → Value) (G C : Nat → Nat) (h : Rows4 w B R N V G C) (hN : N ≤ 200) :
    Calls Try.prog 18 #[.slice (some ⟨R, 0, none⟩) N rc] w fun e w' => e = .returned (.bool true) ∧ Below B w w' ∧ ∀ k, (∀ i, i < N → V i ≠ .slice none 0 0 → k ≠ G i) → w'.heap[k]? = w.heap[k]? := by
  have H := Lib.hid h
  clear h
  go_enter Try.func18, Try.ntmps18
  go_wp2_with fail
  go_loopw [3] (fun s wr => ∃ i : Nat, i ≤ N ∧ s = .int .i64 (i : Int) ∧ Hid (Till w wr B R N V G C i)) (fun s _ => N - (intOf s).toNat)
  case atStart => exact ⟨0, Nat.zero_le _, rfl, H.out.start⟩
  case round =>
    obtain ⟨i, hi, rfl, ht⟩ := hrel
    by_cases hlt : i < N
    · have hh := ht.out.2.2.1 i hlt
      rcases ht.out.2.1 i (Nat.le_refl _) hlt with ⟨hv, hc⟩ | ⟨n, hv, hn, cur, hg, hcs⟩
      · rw [hv] at hh
        have HS := Lib.hid (ht.out.skip hv hc)
        clear hv hc
        go_wp2_with fail
        go_quiet (fail)
        go_wp2_with fail
        refine wp_loop_rounds 1 ?_
        rw [rounds_succ]
        go_wp2_with fail
        go_roundw
        case rel => exact ⟨i + 1, by omega, by go_num, HS.out _⟩
        case measure => simp [intOf]; omega
      · rw [hv] at hh
        have hsm := H.out.small i hlt
        have hvn : V i ≠ .slice none 0 0 := by rw [hv]; simp
        have hfar := H.out.far i hlt hvn
        obtain ⟨g, hgd⟩ : ∃ g, g = G i := ⟨_, rfl⟩
        obtain ⟨c, hcd⟩ : ∃ c, c = C i := ⟨_, rfl⟩
        rw [← hgd] at hv hg hh hfar
        rw [← hcd] at hv hn hcs hsm hh
        have HGD := Lib.hid hgd
        have HCD := Lib.hid hcd
        have HV := Lib.hid hv
        have HFAR := Lib.hid hfar
        have HM0 : Hid (∀ m, Mid (wr.drewN m) g c 0 ((i : Int) + 1)) := fun m => ⟨cur, hg, hcs, by simp⟩
        clear hgd hcd hv hg hcs hvn hfar
        have hb8 : IntKind.u8.wrap ((i : Int) + 1) = (i : Int) + 1 := IntWalk.u8_in _ ⟨by omega, by omega⟩
        go_wp2_with fail
        go_quiet (fail)
        go_wp2_with fail
        obtain ⟨wo, hwo⟩ : ∃ wo : World, wo = wr.drewN nq := ⟨_, rfl⟩
        have HM1 : Hid (Mid wo g c 0 ((i : Int) + 1)) := by rw [hwo]; exact HM0.out nq
        have HT1 : Hid (Till w wo B R N V G C i) := by rw [hwo]; exact ⟨ht.out.1, ht.out.2.1, ht.out.2.2.1, below_drawn ht.out.2.2.2.1 nq, ht.out.2.2.2.2⟩
        rw [← hwo]
        clear hwo HM0 ht hh
        go_loopw [5] (fun s wx => ∃ k : Nat, k ≤ c ∧ s = .int .i64 (k : Int) ∧ Hid (Mid wx g c k ((i : Int) + 1)) ∧ Hid ((∀ b, b ≠ g → wx.heap[b]? = wo.heap[b]?) ∧ Below B wo wx)) (fun s _ => c - (intOf s).toNat)
        case atStart => exact ⟨0, Nat.zero_le _, rfl, HM1, fun _ _ => rfl, Below.refl _ _⟩
        case round =>
          obtain ⟨k, hk, rfl, hm, ho⟩ := hrel
          by_cases hkc : k < c
          · obtain ⟨u, hu⟩ := hm.out.cell hkc
            have hf := hm.out.free k
            have HM2 := Lib.hid (hm.out.step hkc)
            have HO2 : Hid ((∀ b, b ≠ g → (wr.setCell ⟨g, k, none⟩ (.int .u8 ((i : Int) + 1))).heap[b]? = wo.heap[b]?) ∧ Below B wo (wr.setCell ⟨g, k, none⟩ (.int .u8 ((i : Int) + 1)))) :=
              ⟨fun b hb => (Below.heap_setCell _ _ _ _ hb).trans (ho.out.1 b hb), ho.out.2.setCell HFAR.out.1 _⟩
            clear hm ho
            go_wp2_with fail
            go_roundw
            case rel => exact ⟨k + 1, by omega, by go_num, HM2, HO2⟩
            case measure => simp [intOf]; omega
          · obtain rfl : k = c := by omega
            have HT2 : Hid (Till w wr B R N V G C (i + 1)) := by
              have e1 := HV.out
              rw [HGD.out, HCD.out] at e1
              refine H.out.next hlt HT1.out e1 (by rw [← HCD.out]; exact hn) ?_ ?_ ho.out.2
              · have e2 := hm.out
                rw [HCD.out, HGD.out] at e2
                exact e2
              · rw [← HGD.out]; exact ho.out.1
            clear hm ho HT1
            go_wp2_with fail
            go_roundw
            case rel => exact ⟨i + 1, by omega, by go_num, HT2⟩
            case measure => simp [intOf]; omega
    · obtain rfl : i = N := by omega
      obtain ⟨wF, hwF⟩ : ∃ wF : World, wF = wr := ⟨_, rfl⟩
      have HTF : Hid (Till w wF B R i V G C i) := by rw [hwF]; exact ht.out
      rw [← hwF]
      clear ht hwF
      go_wp2_with fail
      go_loopw [6] (fun s wx => ∃ j m : Nat, j ≤ i ∧ s = .int .i64 (j : Int) ∧ wx = wF.drewN m) (fun s _ => i - (intOf s).toNat)
      case atStart => exact ⟨0, 0, Nat.zero_le _, rfl, rfl⟩
      case round =>
        obtain ⟨j, m, hj, rfl, rfl⟩ := hrel
        by_cases hlt : j < i
        · have hh := HTF.out.2.2.1 j hlt
          rcases HTF.out.1 j hlt hlt with ⟨hv, hc⟩ | ⟨n, hv, hn, hg⟩
          · rw [hv] at hh
            clear hv hc
            go_wp2_with fail
            go_quiet (fail)
            go_wp2_with fail
            refine wp_loop_rounds 1 ?_
            rw [rounds_succ]
            go_wp2_with fail
            go_roundw
            case rel => exact ⟨j + 1, m + nq, by omega, by go_num, rfl⟩
            case measure => simp [intOf]; omega
          · rw [hv] at hh
            have hsm := H.out.small j hlt
            obtain ⟨g, hgd⟩ : ∃ g, g = G j := ⟨_, rfl⟩
            obtain ⟨c, hcd⟩ : ∃ c, c = C j := ⟨_, rfl⟩
            rw [← hgd] at hg hh
            rw [← hcd] at hn hsm hh hg
            have HCL : Hid (∀ k, k < c → wF.cell? ⟨g, k, none⟩ = some (.int .u8 ((j : Int) + 1))) := by
              intro k hk
              rw [cell_of_row wF g k _ _ _ hg]
              simp [hk]
            clear hgd hcd hv hg
            have hb8 : IntKind.u8.wrap ((j : Int) + 1) = (j : Int) + 1 := IntWalk.u8_in _ ⟨by omega, by omega⟩
            have hjj : ((j : Int) + 1 == (j : Int) + 1) = true := by simp
            go_wp2_with fail
            go_quiet (fail)
            go_wp2_with fail
            go_loop [8] (fun s => ∃ k : Nat, k ≤ c ∧ s = .int .i64 (k : Int)) (fun s => c - (intOf s).toNat)
            case atStart => exact ⟨0, Nat.zero_le _, rfl⟩
            case round =>
              obtain ⟨k, hk, rfl⟩ := hrel
              by_cases hkc : k < c
              · have hcl := HCL.out k hkc
                go_wp2_with fail
                go_round
                case rel => exact ⟨k + 1, by omega, by go_num⟩
                case measure => simp [intOf]; omega
              · obtain rfl : k = c := by omega
                go_wp2_with fail
                go_roundw
                case rel => exact ⟨j + 1, m + nq, by omega, by go_num, rfl⟩
                case measure => simp [intOf]; omega
        · obtain rfl : j = i := by omega
          go_wp2_with fail
          go_ret
          exact ⟨rfl, below_drawn HTF.out.2.2.2.1 m, HTF.out.2.2.2.2⟩

end Go.Proofs.Ytgiepkiogjkjjaa
