/-
  The law's own helper Owned, of any number of rows, and what is left of them.
-/
import Derived.Test.YtgiepkiogjkjjaaOwned
namespace Go.Proofs.Ytgiepkiogjkjjaa
open Go.RowKit

/-- How far the first loop has come: the rows ahead of i are filled with their numbers (as bytes), those from i on are as they were; the header stays. -/
def TillN (w wr : World) (B R N : Nat) (V : Nat → Value) (G C : Nat → Nat) (i : Nat) : Prop :=
  (∀ j, j < i → j < N → FillB wr (V j) (G j) (C j) (((j : Int) + 1) % 256)) ∧ (∀ j, i ≤ j → j < N → OwnB wr (V j) (G j) (C j)) ∧ (∀ j, j < N → wr.cell? ⟨R, j, none⟩ = some (V j)) ∧ Below B w wr ∧ ∀ k, (∀ i, i < N → V i ≠ .slice none 0 0 → k ≠ G i) → wr.heap[k]? = w.heap[k]?

theorem Rows4.startN {w : World} {B R N : Nat} {V : Nat → Value} {G C : Nat → Nat} (h : Rows4 w B R N V G C) : TillN w w B R N V G C 0 :=
  ⟨fun j hj => absurd hj (by omega), fun j _ hj => h.own j hj, h.head, Below.refl _ _, fun _ _ => rfl⟩

theorem Rows4.nextN {w wr w2 : World} {B R N : Nat} {V : Nat → Value} {G C : Nat → Nat} (h : Rows4 w B R N V G C) {i n : Nat} (hi : i < N) (ht : TillN w wr B R N V G C i)
    (hv : V i = .slice (some ⟨G i, 0, none⟩) n (C i)) (hn : n ≤ C i) (hm : Mid w2 (G i) (C i) (C i) (((i : Int) + 1) % 256)) (ho : ∀ k, k ≠ G i → w2.heap[k]? = wr.heap[k]?) (hb : Below B wr w2) : TillN w w2 B R N V G C (i + 1) := by
  have hvn : V i ≠ .slice none 0 0 := by rw [hv]; simp
  refine ⟨fun j hj hjN => ?_, fun j hj hjN => ?_, fun j hj => ?_, ht.2.2.2.1.trans hb, fun k hk => (ho k (hk i hi hvn)).trans (ht.2.2.2.2 k hk)⟩
  · by_cases e : j = i
    · subst e; exact .inr ⟨n, hv, hn, hm.full⟩
    · exact (ht.1 j (by omega) hjN).same (fun hne => ho _ (h.apart j i hjN hi e hne hvn))
  · exact (ht.2.1 j (by omega) hjN).same (fun hne => ho _ (h.apart j i hjN hi (by omega) hne hvn))
  · rw [← ht.2.2.1 j hj]
    exact World.cell?_of_block (w := wr) (ho R (fun e => (h.far i hi hvn).2 e.symm))

theorem TillN.skip {w wr : World} {B R N : Nat} {V : Nat → Value} {G C : Nat → Nat} {i : Nat} (ht : TillN w wr B R N V G C i) (hv : V i = .slice none 0 0) (hc : C i = 0) (n : Nat) : TillN w (wr.drewN n) B R N V G C (i + 1) := by
  refine ⟨fun j hj hjN => ?_, fun j hj hjN => ht.2.1 j (by omega) hjN, ht.2.2.1, below_drawn ht.2.2.2.1 n, ht.2.2.2.2⟩
  by_cases e : j = i
  · subst e; exact .inl ⟨hv, hc⟩
  · exact ht.1 j (by omega) hjN

theorem FillB.own {w : World} {v : Value} {g c : Nat} {x : Int} (h : FillB w v g c x) : OwnB w v g c := by
  rcases h with h | ⟨n, hv, hn, hg⟩
  · exact .inl h
  · exact .inr ⟨n, hv, hn, _, hg, by simp⟩

set_option maxHeartbeats 1600000 in
set_option maxRecDepth 20000 in
theorem owned_n (w : World) (B R N rc : Nat) (V : Nat → Value) (G C : Nat → Nat) (h : Rows4 w B R N V G C) (hN : N ≤ 1000000000) :
    Calls Try.prog 18 #[.slice (some ⟨R, 0, none⟩) N rc] w fun e w' => e = .returned (.bool true) ∧ Below B w w' ∧ (∀ k, (∀ i, i < N → V i ≠ .slice none 0 0 → k ≠ G i) → w'.heap[k]? = w.heap[k]?) ∧ ∀ i, i < N → OwnB w' (V i) (G i) (C i) := by
  have H := Lib.hid h
  clear h
  go_enter Try.func18, Try.ntmps18
  go_wp2_with fail
  go_loopw [3] (fun s wr => ∃ i : Nat, i ≤ N ∧ s = .int .i64 (i : Int) ∧ Hid (TillN w wr B R N V G C i)) (fun s _ => N - (intOf s).toNat)
  case atStart => exact ⟨0, Nat.zero_le _, rfl, H.out.startN⟩
  case round =>
    obtain ⟨i, hi, rfl, ht⟩ := hrel
    by_cases hlt : i < N
    · have hh := ht.out.2.2.1 i hlt
      rcases ht.out.2.1 i (Nat.le_refl _) hlt with ⟨hv, hc⟩ | ⟨n, hv, hn, cur, hg, hcs⟩
      · rw [hv] at hh
        have HS := Lib.hid (ht.out.skip hv hc)
        clear hv hc
        go_wp2_with fail
        go_quiet (fail)
        go_wp2_with fail
        refine wp_loop_rounds 1 ?_
        rw [rounds_succ]
        go_wp2_with fail
        go_roundw
        case rel => exact ⟨i + 1, by omega, by go_num, HS.out _⟩
        case measure => simp [intOf]; omega
      · rw [hv] at hh
        have hsm := H.out.small i hlt
        have hvn : V i ≠ .slice none 0 0 := by rw [hv]; simp
        have hfar := H.out.far i hlt hvn
        obtain ⟨g, hgd⟩ : ∃ g, g = G i := ⟨_, rfl⟩
        obtain ⟨c, hcd⟩ : ∃ c, c = C i := ⟨_, rfl⟩
        rw [← hgd] at hv hg hh hfar
        rw [← hcd] at hv hn hcs hsm hh
        have HGD := Lib.hid hgd
        have HCD := Lib.hid hcd
        have HV := Lib.hid hv
        have HFAR := Lib.hid hfar
        have HM0 : Hid (∀ m, Mid (wr.drewN m) g c 0 (((i : Int) + 1) % 256)) := fun m => ⟨cur, hg, hcs, by simp⟩
        clear hgd hcd hv hg hcs hvn hfar
        have hb8 : IntKind.u8.wrap ((i : Int) + 1) = ((i : Int) + 1) % 256 := rfl
        go_wp2_with fail
        go_quiet (fail)
        go_wp2_with fail
        obtain ⟨wo, hwo⟩ : ∃ wo : World, wo = wr.drewN nq := ⟨_, rfl⟩
        have HM1 : Hid (Mid wo g c 0 (((i : Int) + 1) % 256)) := by rw [hwo]; exact HM0.out nq
        have HT1 : Hid (TillN w wo B R N V G C i) := by rw [hwo]; exact ⟨ht.out.1, ht.out.2.1, ht.out.2.2.1, below_drawn ht.out.2.2.2.1 nq, ht.out.2.2.2.2⟩
        rw [← hwo]
        clear hwo HM0 ht hh
        go_loopw [5] (fun s wx => ∃ k : Nat, k ≤ c ∧ s = .int .i64 (k : Int) ∧ Hid (Mid wx g c k (((i : Int) + 1) % 256)) ∧ Hid ((∀ b, b ≠ g → wx.heap[b]? = wo.heap[b]?) ∧ Below B wo wx)) (fun s _ => c - (intOf s).toNat)
        case atStart => exact ⟨0, Nat.zero_le _, rfl, HM1, fun _ _ => rfl, Below.refl _ _⟩
        case round =>
          obtain ⟨k, hk, rfl, hm, ho⟩ := hrel
          by_cases hkc : k < c
          · obtain ⟨u, hu⟩ := hm.out.cell hkc
            have hf := hm.out.free k
            have HM2 := Lib.hid (hm.out.step hkc)
            have HO2 : Hid ((∀ b, b ≠ g → (wr.setCell ⟨g, k, none⟩ (.int .u8 (((i : Int) + 1) % 256))).heap[b]? = wo.heap[b]?) ∧ Below B wo (wr.setCell ⟨g, k, none⟩ (.int .u8 (((i : Int) + 1) % 256)))) :=
              ⟨fun b hb => (Below.heap_setCell _ _ _ _ hb).trans (ho.out.1 b hb), ho.out.2.setCell HFAR.out.1 _⟩
            clear hm ho
            go_wp2_with fail
            go_roundw
            case rel => exact ⟨k + 1, by omega, by go_num, HM2, HO2⟩
            case measure => simp [intOf]; omega
          · obtain rfl : k = c := by omega
            have HT2 : Hid (TillN w wr B R N V G C (i + 1)) := by
              have e1 := HV.out
              rw [HGD.out, HCD.out] at e1
              refine H.out.nextN hlt HT1.out e1 (by rw [← HCD.out]; exact hn) ?_ ?_ ho.out.2
              · have e2 := hm.out
                rw [HCD.out, HGD.out] at e2
                exact e2
              · rw [← HGD.out]; exact ho.out.1
            clear hm ho HT1
            go_wp2_with fail
            go_roundw
            case rel => exact ⟨i + 1, by omega, by go_num, HT2⟩
            case measure => simp [intOf]; omega
    · obtain rfl : i = N := by omega
      obtain ⟨wF, hwF⟩ : ∃ wF : World, wF = wr := ⟨_, rfl⟩
      have HTF : Hid (TillN w wF B R i V G C i) := by rw [hwF]; exact ht.out
      rw [← hwF]
      clear ht hwF
      go_wp2_with fail
      go_loopw [6] (fun s wx => ∃ j m : Nat, j ≤ i ∧ s = .int .i64 (j : Int) ∧ wx = wF.drewN m) (fun s _ => i - (intOf s).toNat)
      case atStart => exact ⟨0, 0, Nat.zero_le _, rfl, rfl⟩
      case round =>
        obtain ⟨j, m, hj, rfl, rfl⟩ := hrel
        by_cases hlt : j < i
        · have hh := HTF.out.2.2.1 j hlt
          rcases HTF.out.1 j hlt hlt with ⟨hv, hc⟩ | ⟨n, hv, hn, hg⟩
          · rw [hv] at hh
            clear hv hc
            go_wp2_with fail
            go_quiet (fail)
            go_wp2_with fail
            refine wp_loop_rounds 1 ?_
            rw [rounds_succ]
            go_wp2_with fail
            go_roundw
            case rel => exact ⟨j + 1, m + nq, by omega, by go_num, rfl⟩
            case measure => simp [intOf]; omega
          · rw [hv] at hh
            have hsm := H.out.small j hlt
            obtain ⟨g, hgd⟩ : ∃ g, g = G j := ⟨_, rfl⟩
            obtain ⟨c, hcd⟩ : ∃ c, c = C j := ⟨_, rfl⟩
            rw [← hgd] at hg hh
            rw [← hcd] at hn hsm hh hg
            have HCL : Hid (∀ k, k < c → wF.cell? ⟨g, k, none⟩ = some (.int .u8 (((j : Int) + 1) % 256))) := by
              intro k hk
              rw [cell_of_row wF g k _ _ _ hg]
              simp [hk]
            clear hgd hcd hv hg
            have hb8 : IntKind.u8.wrap ((j : Int) + 1) = ((j : Int) + 1) % 256 := rfl
            have hjj : (((j : Int) + 1) % 256 == ((j : Int) + 1) % 256) = true := by simp
            go_wp2_with fail
            go_quiet (fail)
            go_wp2_with fail
            go_loop [8] (fun s => ∃ k : Nat, k ≤ c ∧ s = .int .i64 (k : Int)) (fun s => c - (intOf s).toNat)
            case atStart => exact ⟨0, Nat.zero_le _, rfl⟩
            case round =>
              obtain ⟨k, hk, rfl⟩ := hrel
              by_cases hkc : k < c
              · have hcl := HCL.out k hkc
                go_wp2_with fail
                go_round
                case rel => exact ⟨k + 1, by omega, by go_num⟩
                case measure => simp [intOf]; omega
              · obtain rfl : k = c := by omega
                go_wp2_with fail
                go_roundw
                case rel => exact ⟨j + 1, m + nq, by omega, by go_num, rfl⟩
                case measure => simp [intOf]; omega
        · obtain rfl : j = i := by omega
          go_wp2_with fail
          go_ret
          exact ⟨rfl, below_drawn HTF.out.2.2.2.1 m, HTF.out.2.2.2.2, fun i hi => (HTF.out.1 i hi hi).own⟩

end Go.Proofs.Ytgiepkiogjkjjaa
