/-
  The document's digits: what pavaneref03.digits answers.
-/
import Derived.Test.YtckgppojeeccnaaDoorLib
import Derived.Deep.DeepCutAuto
import Derived.Deep.RegionHeld3
import Derived.Lib.ItoaNum
import Derived.Laws.IdiomStrings
namespace Go.Proofs.YtckgppojeeccnaaDoor
open Go.RowKit

theorem dig_held {P : Program} {md : Region.Mode} {ops : Array Oper} {Q : Exit → Act → World → Prop} {S S2 : World → Prop} (himp : ∀ w, S2 w → S w) :
    ∀ (fuel : Nat) (listed : Array Bool) (a : Act) (w : World), wpAnyH P md ops Q S2 fuel listed a w → wpAnyH P md ops Q S fuel listed a w
  | 0, _, _, _, h => h
  | fuel + 1, _, _, _, h => ⟨h.1, fun i hi => wpOp_mono (fun a' w' h' => ⟨himp _ h'.1, dig_held himp fuel _ a' w' h'.2⟩) (h.2 i hi)⟩

/-- A block of one byte, said of a world. -/
def OneByte (g : Nat) (d : Int) (W : World) : Prop := W.cell? ⟨g, 0, none⟩ = some (.int .u8 d)

/-- The byte of the last digit. -/
def dgB (u : Nat) : UInt8 := UInt8.ofNat (48 + u % 10)

theorem dgB_nat (u : Nat) : ((dgB u).toNat : Int) = ((48 + u % 10 : Nat) : Int) := by
  unfold dgB
  rw [UInt8.toNat_ofNat']
  omega

theorem OneByte.conv {g : Nat} {u : Nat} {W : World} (h : OneByte g ((48 + u % 10 : Nat) : Int) W) :
    (convert 45 9 (.slice (some ⟨g, 0, none⟩) 1 1)).run Tryd.prog W = .ok (.string ⟨#[dgB u]⟩) W := by
  have := run_convert_bytes_back (P := Tryd.prog) W 45 9 5 ⟨g, 0, none⟩ 1 [dgB u] Tryd.underlying45 Tryd.underlying5 Tryd.underlying9 (fun j hj => by
    obtain rfl : j = 0 := by simpa using hj
    simp only [List.getElem_cons_zero]
    rw [dgB_nat]
    exact h)
  simpa using this

theorem dig_byte (u : Nat) : IntKind.u8.wrap (IntKind.u64.wrap (48 + (u : Int).tmod 10)) = ((48 + u % 10 : Nat) : Int) := by
  have e : (u : Int).tmod 10 = ((u % 10 : Nat) : Int) := by rw [Int.tmod_eq_emod_of_nonneg (by omega)]; omega
  have e1 : IntKind.u64.wrap (48 + ((u % 10 : Nat) : Int)) = ((48 + u % 10 : Nat) : Int) := IntWalk.u64_in _ ⟨by omega, by omega⟩
  have e2 : IntKind.u8.wrap ((48 + u % 10 : Nat) : Int) = (((48 + u % 10 : Nat) : Int)) % 256 := rfl
  rw [e, e1, e2]
  omega

theorem OneByte.made (W : World) (d : Int) (t : TypeId) : OneByte W.heap.size d (W.alloc (.cells #[.int .u8 d] t)) := by
  exact cell_one_new W (Value.int .u8 d) t 0 _ rfl

set_option maxHeartbeats 800000 in
set_option maxRecDepth 20000 in
theorem rdigits_step (u : Nat) (w : World) (hu : ¬ u = 0) (h64 : u < 18446744073709551616) (s : ByteArray) (hs : s.size ≤ 100)
    (ih : ∀ w : World, Calls Tryd.prog 28 #[.int .u64 ((u : Int) / 10)] w fun e w' => e = .returned (.string s) ∧ Below w.heap.size w w') :
    Calls Tryd.prog 28 #[.int .u64 (u : Int)] w fun e w' => e = .returned (.string (s ++ ⟨#[dgB u]⟩)) ∧ Below w.heap.size w w' := by
  have hlen : ¬ 9223372036854775807 < s.size + 1 := by omega
  have hu1 : ¬ (u : Int) = 0 := by omega
  have hq : IntKind.u64.wrap ((u : Int) / 10) = (u : Int) / 10 := IntWalk.u64_in _ ⟨by omega, by omega⟩
  have hd : IntKind.u8.wrap (IntKind.u64.wrap (48 + (u : Int).tmod 10)) = ((48 + u % 10 : Nat) : Int) := dig_byte u
  have HU := Lib.hid h64
  clear h64
  go_enter Tryd.func28, Tryd.ntmps28
  go_wp2_with fail
  refine wp_region_held_drew (S := fun W => Hid (Below w.heap.size w W)) (by kernel_rfl) ?_ (fun hHeld => ?_)
  · exact (Below.refl _ w).drew
  refine wpAnyH_take (i := 0) (v := ?_) (by simp only [List.getElem?_toArray, List.getElem?_cons_zero]; rfl) (by kernel_rfl) (by kernel_rfl) (by kernel_rfl) (by exact fun _ _ _ h => h) (Or.inl ⟨by rfl, ?_⟩) (by assumption) ?_
  rotate_left
  · intro W hSw
    obtain hS1 := hSw
    go_simp
    first | done | with_reducible rfl
  rotate_left
  simp only [Act.put, List.setIfInBounds_toArray, List.set_cons_zero, List.set_cons_succ]
  refine wpAnyH_take (i := 1) (v := ?_) (by simp only [List.getElem?_toArray, List.getElem?_cons_zero, List.getElem?_cons_succ]; rfl) (by kernel_rfl) (by kernel_rfl) (by kernel_rfl) (by exact fun _ _ _ h => h) (Or.inl ⟨by rfl, ?_⟩) (by assumption) ?_
  rotate_left
  · intro W hSw
    obtain hS1 := hSw
    go_simp
    first | done | with_reducible rfl
  rotate_left
  simp only [Act.put, List.setIfInBounds_toArray, List.set_cons_zero, List.set_cons_succ]
  refine wpAnyH_take (i := 3) (v := ?_) (by simp only [List.getElem?_toArray, List.getElem?_cons_zero, List.getElem?_cons_succ]; rfl) (by kernel_rfl) (by kernel_rfl) (by kernel_rfl) (by exact fun _ _ _ h => h) (Or.inl ⟨by rfl, ?_⟩) (by assumption) ?_
  rotate_left
  · intro W hSw
    obtain hS1 := hSw
    go_simp
    first | done | with_reducible rfl
  rotate_left
  simp only [Act.put, List.setIfInBounds_toArray, List.set_cons_zero, List.set_cons_succ]
  refine wpAnyH_take (i := 4) (v := ?_) (by simp only [List.getElem?_toArray, List.getElem?_cons_zero, List.getElem?_cons_succ]; rfl) (by kernel_rfl) (by kernel_rfl) (by kernel_rfl) (by exact fun _ _ _ h => h) (Or.inl ⟨by rfl, ?_⟩) (by assumption) ?_
  rotate_left
  · intro W hSw
    obtain hS1 := hSw
    go_simp
    first | done | with_reducible rfl
  rotate_left
  simp only [Act.put, List.setIfInBounds_toArray, List.set_cons_zero, List.set_cons_succ]
  refine wpAnyH_take (i := 5) (v := ?_) (by simp only [List.getElem?_toArray, List.getElem?_cons_zero, List.getElem?_cons_succ]; rfl) (by kernel_rfl) (by kernel_rfl) (by kernel_rfl) (by exact fun _ _ _ h => h) (Or.inl ⟨by rfl, ?_⟩) (by assumption) ?_
  rotate_left
  · intro W hSw
    obtain hS1 := hSw
    go_simp
    first | done | with_reducible rfl
  rotate_left
  simp only [Act.put, List.setIfInBounds_toArray, List.set_cons_zero, List.set_cons_succ]
  refine wpAnyH_take (i := 6) (v := ?_) (by simp only [List.getElem?_toArray, List.getElem?_cons_zero, List.getElem?_cons_succ]; rfl) (by kernel_rfl) (by kernel_rfl) (by kernel_rfl) (by exact fun _ _ _ h => h) (Or.inl ⟨by rfl, ?_⟩) (by assumption) ?_
  rotate_left
  · intro W hSw
    obtain hS1 := hSw
    go_simp
    first | done | with_reducible rfl
  rotate_left
  simp only [Act.put, List.setIfInBounds_toArray, List.set_cons_zero, List.set_cons_succ]
  refine wpAnyH_ready (rs := [2, 7]) (by kernel_rfl) (by simp) ?_
  refine AllReadyH.cons (o := _) rfl (fun K hK => ?_) (AllReadyH.cons (o := _) rfl (fun K hK => ?_) AllReadyH.nil)
  · go_simp
    refine (ih _).mono ?_
    rintro e w1 ⟨rfl, hb1⟩
    have hb1' : Below w.heap.size w w1 := (Below.refl _ w).drew.trans hb1
    refine hK.out _ w1 hb1' (fun _ => ?_)
    refine wpAnyH_ready (rs := [7]) (by kernel_rfl) (by simp) ?_
    refine AllReadyH.cons (o := _) rfl (fun K hK => ?_) AllReadyH.nil
    go_simp
    refine hK.out _ _ (hb1'.alloc hb1'.size _) (fun _ => ?_)
    refine dig_held (S2 := fun W => OneByte w1.heap.size ((48 + u % 10 : Nat) : Int) W ∧ Hid (Below w.heap.size w W)) (fun _ h => h.2) _ _ _ _ ?_
    have hH : OneByte w1.heap.size ((48 + u % 10 : Nat) : Int) (w1.alloc (.cells #[.int .u8 ((48 + u % 10 : Nat) : Int)] 5)) ∧ Hid (Below w.heap.size w (w1.alloc (.cells #[.int .u8 ((48 + u % 10 : Nat) : Int)] 5))) := ⟨OneByte.made _ _ _, hb1'.alloc hb1'.size _⟩
    refine wpAnyH_take (i := 8) (v := ?_) (by simp only [List.getElem?_toArray, List.getElem?_cons_zero, List.getElem?_cons_succ]; rfl) (by kernel_rfl) (by kernel_rfl) (by kernel_rfl) (by exact fun _ _ _ h => h) (Or.inl ⟨by rfl, ?_⟩) (by assumption) ?_
    rotate_left
    · intro W hSw
      obtain ⟨hS1, hS2⟩ := hSw
      have hcv := hS1.conv
      go_simp
      first | done | with_reducible rfl
    rotate_left
    simp only [Act.put, List.setIfInBounds_toArray, List.set_cons_zero, List.set_cons_succ]
    refine wpAnyH_take (i := 9) (v := ?_) (by simp only [List.getElem?_toArray, List.getElem?_cons_zero, List.getElem?_cons_succ]; rfl) (by kernel_rfl) (by kernel_rfl) (by kernel_rfl) (by exact fun _ _ _ h => h) (Or.inl ⟨by rfl, ?_⟩) (by assumption) ?_
    rotate_left
    · intro W hSw
      obtain ⟨hS1, hS2⟩ := hSw
      go_simp
      first | done | with_reducible rfl
    rotate_left
    simp only [Act.put, List.setIfInBounds_toArray, List.set_cons_zero, List.set_cons_succ]
    refine wpAnyH_take (i := 10) (v := ?_) (by simp only [List.getElem?_toArray, List.getElem?_cons_zero, List.getElem?_cons_succ]; rfl) (by kernel_rfl) (by kernel_rfl) (by kernel_rfl) (by exact fun _ _ _ h => h) (Or.inl ⟨by rfl, ?_⟩) (by assumption) ?_
    rotate_left
    · intro W hSw
      obtain ⟨hS1, hS2⟩ := hSw
      go_simp
      first | done | with_reducible rfl
    rotate_left
    simp only [Act.put, List.setIfInBounds_toArray, List.set_cons_zero, List.set_cons_succ]
    refine wpAnyH_done (by kernel_rfl) ?_ _
    go_simp
    go_wp2_with fail
    go_ret
    exact ⟨rfl, hH.2.out⟩
  · go_simp
    have hb1' : Below w.heap.size w (w.alloc (.cells #[.int .u8 ((48 + u % 10 : Nat) : Int)] 5)).drew := ((Below.refl _ w).alloc (Nat.le_refl _) _).drew
    refine hK.out _ _ hb1' (fun _ => ?_)
    refine dig_held (S2 := fun W => OneByte w.heap.size ((48 + u % 10 : Nat) : Int) W ∧ Hid (Below w.heap.size w W)) (fun _ h => h.2) _ _ _ _ ?_
    have hH : OneByte w.heap.size ((48 + u % 10 : Nat) : Int) (w.alloc (.cells #[.int .u8 ((48 + u % 10 : Nat) : Int)] 5)).drew ∧ Hid (Below w.heap.size w (w.alloc (.cells #[.int .u8 ((48 + u % 10 : Nat) : Int)] 5)).drew) := ⟨OneByte.made _ _ _, hb1'⟩
    refine wpAnyH_take (i := 8) (v := ?_) (by simp only [List.getElem?_toArray, List.getElem?_cons_zero, List.getElem?_cons_succ]; rfl) (by kernel_rfl) (by kernel_rfl) (by kernel_rfl) (by exact fun _ _ _ h => h) (Or.inl ⟨by rfl, ?_⟩) (by assumption) ?_
    rotate_left
    · intro W hSw
      obtain ⟨hS1, hS2⟩ := hSw
      have hcv := hS1.conv
      go_simp
      first | done | with_reducible rfl
    rotate_left
    simp only [Act.put, List.setIfInBounds_toArray, List.set_cons_zero, List.set_cons_succ]
    refine wpAnyH_ready (rs := [2]) (by kernel_rfl) (by simp) ?_
    refine AllReadyH.cons (o := _) rfl (fun K hK => ?_) AllReadyH.nil
    go_simp
    refine (ih _).mono ?_
    rintro e w1 ⟨rfl, hb1⟩
    have hb2 : Below w.heap.size w w1 := hb1'.trans (hb1.mono (by simp))
    have hH2 : OneByte w.heap.size ((48 + u % 10 : Nat) : Int) w1 ∧ Hid (Below w.heap.size w w1) := ⟨by
      have := hH.1
      unfold OneByte at this ⊢
      rw [hb1.cell (by simp)]
      exact this, hb2⟩
    refine hK.out _ w1 hH2 (fun _ => ?_)
    refine wpAnyH_take (i := 9) (v := ?_) (by simp only [List.getElem?_toArray, List.getElem?_cons_zero, List.getElem?_cons_succ]; rfl) (by kernel_rfl) (by kernel_rfl) (by kernel_rfl) (by exact fun _ _ _ h => h) (Or.inl ⟨by rfl, ?_⟩) (by assumption) ?_
    rotate_left
    · intro W hSw
      obtain ⟨hS1, hS2⟩ := hSw
      go_simp
      first | done | with_reducible rfl
    rotate_left
    simp only [Act.put, List.setIfInBounds_toArray, List.set_cons_zero, List.set_cons_succ]
    refine wpAnyH_take (i := 10) (v := ?_) (by simp only [List.getElem?_toArray, List.getElem?_cons_zero, List.getElem?_cons_succ]; rfl) (by kernel_rfl) (by kernel_rfl) (by kernel_rfl) (by exact fun _ _ _ h => h) (Or.inl ⟨by rfl, ?_⟩) (by assumption) ?_
    rotate_left
    · intro W hSw
      obtain ⟨hS1, hS2⟩ := hSw
      go_simp
      first | done | with_reducible rfl
    rotate_left
    simp only [Act.put, List.setIfInBounds_toArray, List.set_cons_zero, List.set_cons_succ]
    refine wpAnyH_done (by kernel_rfl) ?_ _
    go_simp
    go_wp2_with fail
    go_ret
    exact ⟨rfl, hb2⟩

/-- The digits of a number, none of 0. -/
def dec0 (u : Nat) : List UInt8 := if u = 0 then [] else Lib.decDigits u

theorem dec0_pos {u : Nat} (h : ¬ u = 0) : dec0 u = Lib.decDigits u := if_neg h

theorem dec0_step {u : Nat} (h : ¬ u = 0) : dec0 u = dec0 (u / 10) ++ [dgB u] := by
  rw [dec0_pos h, Lib.decDigits]
  by_cases h10 : u < 10
  · rw [dif_pos h10]
    have e : u / 10 = 0 := by omega
    rw [e]
    unfold dec0 dgB
    rw [if_pos rfl, Nat.mod_eq_of_lt h10]
    rfl
  · rw [dif_neg h10, dec0_pos (by omega)]
    rfl

theorem dec0_length {u : Nat} (k : Nat) (h : u < 10 ^ k) : (dec0 u).length ≤ k := by
  induction k generalizing u with
  | zero =>
    have : u = 0 := by simpa using h
    subst this
    simp [dec0]
  | succ k ih =>
    by_cases h0 : u = 0
    · subst h0; simp [dec0]
    · rw [dec0_step h0, List.length_append]
      have := ih (u := u / 10) (by rw [Nat.pow_succ] at h; omega)
      simp
      omega

theorem size_list (l : List UInt8) : (⟨l.toArray⟩ : ByteArray).size = l.length := by
  simp [ByteArray.size]

theorem append_list (l r : List UInt8) : (⟨l.toArray⟩ : ByteArray) ++ ⟨r.toArray⟩ = ⟨(l ++ r).toArray⟩ := by
  apply ByteArray.ext
  simp

theorem rdigits_zero (w : World) :
    Calls Tryd.prog 28 #[.int .u64 0] w fun e w' => e = .returned (.string ⟨#[]⟩) ∧ Below w.heap.size w w' := by
  go_enter Tryd.func28, Tryd.ntmps28
  go_wp2_with fail
  go_ret
  exact ⟨rfl, Below.refl _ _⟩

theorem rdigits_any (k : Nat) : ∀ (u : Nat), u < 10 ^ k → k ≤ 20 → u < 18446744073709551616 → ∀ (w : World),
    Calls Tryd.prog 28 #[.int .u64 (u : Int)] w fun e w' => e = .returned (.string ⟨(dec0 u).toArray⟩) ∧ Below w.heap.size w w' := by
  induction k with
  | zero =>
    intro u h _ _ w
    have : u = 0 := by simpa using h
    subst this
    exact rdigits_zero w
  | succ k ih =>
    intro u h hk h64 w
    by_cases h0 : u = 0
    · subst h0
      exact rdigits_zero w
    · have hlt : u / 10 < 10 ^ k := by rw [Nat.pow_succ] at h; omega
      have hl := dec0_length k hlt
      have e : ((u : Int) / 10) = ((u / 10 : Nat) : Int) := by omega
      have := rdigits_step u w h0 h64 ⟨(dec0 (u / 10)).toArray⟩ (by rw [size_list]; omega) (by rw [e]; exact ih (u / 10) hlt (by omega) (by omega))
      have ea : (⟨(dec0 (u / 10)).toArray⟩ : ByteArray) ++ ⟨#[dgB u]⟩ = ⟨(dec0 u).toArray⟩ := by
        rw [dec0_step h0]
        exact append_list _ [dgB u]
      rw [ea] at this
      exact this

end Go.Proofs.YtckgppojeeccnaaDoor
