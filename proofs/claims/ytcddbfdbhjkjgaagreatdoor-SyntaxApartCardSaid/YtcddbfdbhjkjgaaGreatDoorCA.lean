/-
  The operators of calc: what calc.Do and calc.One answer.
  strconv.Itoa and strconv.Atoi at this program, in the table and the variable as their initialisers lay them; calc.Text; calc.Parse's library part.
  The document's operators: what pavaneref03.Do and One answer.
  The document's digits: what pavaneref03.digits answers.
  Text of calc and of the document; the small case of the laws.
  From the rows' listed variables to what the walks ask: the table of powers of ten; strconv.ErrRange.
  A numeral's digits and value, in plain words of lists.
  calc.Parse and the document's Parse.
  calc.Parse.
-/
import Derived.Test.YtcddbfdbhjkjgaaGreatDoorRows
import Derived.WalkKit
import Derived.WalkSpells
import Derived.Lib.Hide
import Derived.WalkLawsBesides
import Derived.Deep.Light
import Derived.Test.YtcddbfdbhjkjgaaGreatDoorShelf
import Derived.Lib.LaidTab
import Derived.Stop.LaidErr
import Derived.Deep.DeepCutAuto
import Derived.Deep.RegionHeld3
import Derived.Lib.ItoaNum
import Derived.Laws.IdiomStrings
import Derived.LaidLaws
import Derived.Lib.AtoiAll
import Derived.Shelf.Strconv.ErrVarAll
import Derived.Deep.CutBlock
namespace Go.Proofs.YtcddbfdbhjkjgaaGreatDoor
open Go.RowKit Go.ChangeShapes

/-- The powers of ten lie as the initialiser lays them. -/
def PowTab (w : World) : Prop := ∃ t fr, w.heap[5]? = some (.cells (Lib.pow10Tab.map fun z => Value.int .u64 z).toArray t fr)

theorem PowTab.below {w w' : World} (h : PowTab w) (hb : Below w.heap.size w w') : PowTab w' := by
  obtain ⟨t, fr, h⟩ := h
  refine ⟨t, fr, ?_⟩
  rw [hb.block _ ?_]
  · exact h
  · rcases Nat.lt_or_ge 5 w.heap.size with h' | h'
    · exact h'
    · rw [Array.getElem?_eq_none h'] at h; cases h

/-- strconv.ErrRange holds some value of an interface type. -/
def ErrAt (w : World) : Prop := ∃ tp p, w.cell? ⟨3, 0, none⟩ = some (.iface tp p)

theorem rsize_any (n : Int) (w : World) (h0 : -9223372036854775808 ≤ n) (h1 : n ≤ 9223372036854775807) :
    Calls Tryz.prog 60 #[.int .i64 n] w fun e w' => e = .returned (.int .u64 (n.natAbs : Int)) ∧ w = w' := by
  by_cases h : n < 0
  all_goals
    go_enter Tryz.func60, Tryz.ntmps60
    go_wp2
    go_ret
    refine ⟨?_, rfl⟩
    simp
    omega

theorem dig_held {P : Program} {md : Region.Mode} {ops : Array Oper} {Q : Exit → Act → World → Prop} {S S2 : World → Prop} (himp : ∀ w, S2 w → S w) :
    ∀ (fuel : Nat) (listed : Array Bool) (a : Act) (w : World), wpAnyH P md ops Q S2 fuel listed a w → wpAnyH P md ops Q S fuel listed a w
  | 0, _, _, _, h => h
  | fuel + 1, _, _, _, h => ⟨h.1, fun i hi => wpOp_mono (fun a' w' h' => ⟨himp _ h'.1, dig_held himp fuel _ a' w' h'.2⟩) (h.2 i hi)⟩

/-- A block of one byte, said of a world. -/
def OneByte (g : Nat) (d : Int) (W : World) : Prop := W.cell? ⟨g, 0, none⟩ = some (.int .u8 d)

/-- The byte of the last digit. -/
def dgB (u : Nat) : UInt8 := UInt8.ofNat (48 + u % 10)

theorem dgB_nat (u : Nat) : ((dgB u).toNat : Int) = ((48 + u % 10 : Nat) : Int) := by
  unfold dgB
  rw [UInt8.toNat_ofNat']
  omega

theorem OneByte.conv {g : Nat} {u : Nat} {W : World} (h : OneByte g ((48 + u % 10 : Nat) : Int) W) :
    (convert 126 9 (.slice (some ⟨g, 0, none⟩) 1 1)).run Tryz.prog W = .ok (.string ⟨#[dgB u]⟩) W := by
  have := run_convert_bytes_back (P := Tryz.prog) W 126 9 5 ⟨g, 0, none⟩ 1 [dgB u] Tryz.underlying126 Tryz.underlying5 Tryz.underlying9 (fun j hj => by
    obtain rfl : j = 0 := by simpa using hj
    simp only [List.getElem_cons_zero]
    rw [dgB_nat]
    exact h)
  simpa using this

theorem dig_byte (u : Nat) : IntKind.u8.wrap (IntKind.u64.wrap (48 + (u : Int).tmod 10)) = ((48 + u % 10 : Nat) : Int) := by
  have e : (u : Int).tmod 10 = ((u % 10 : Nat) : Int) := by rw [Int.tmod_eq_emod_of_nonneg (by omega)]; omega
  have e1 : IntKind.u64.wrap (48 + ((u % 10 : Nat) : Int)) = ((48 + u % 10 : Nat) : Int) := IntWalk.u64_in _ ⟨by omega, by omega⟩
  have e2 : IntKind.u8.wrap ((48 + u % 10 : Nat) : Int) = (((48 + u % 10 : Nat) : Int)) % 256 := rfl
  rw [e, e1, e2]
  omega

theorem OneByte.made (W : World) (d : Int) (t : TypeId) : OneByte W.heap.size d (W.alloc (.cells #[.int .u8 d] t)) := by
  exact cell_one_new W (Value.int .u8 d) t 0 _ rfl

set_option maxHeartbeats 800000 in
set_option maxRecDepth 20000 in
theorem rdigits_step (u : Nat) (w : World) (hu : ¬ u = 0) (h64 : u < 18446744073709551616) (s : ByteArray) (hs : s.size ≤ 100)
    (ih : ∀ w : World, Calls Tryz.prog 59 #[.int .u64 ((u : Int) / 10)] w fun e w' => e = .returned (.string s) ∧ Below w.heap.size w w') :
    Calls Tryz.prog 59 #[.int .u64 (u : Int)] w fun e w' => e = .returned (.string (s ++ ⟨#[dgB u]⟩)) ∧ Below w.heap.size w w' := by
  have hlen : ¬ 9223372036854775807 < s.size + 1 := by omega
  have hu1 : ¬ (u : Int) = 0 := by omega
  have hq : IntKind.u64.wrap ((u : Int) / 10) = (u : Int) / 10 := IntWalk.u64_in _ ⟨by omega, by omega⟩
  have hd : IntKind.u8.wrap (IntKind.u64.wrap (48 + (u : Int).tmod 10)) = ((48 + u % 10 : Nat) : Int) := dig_byte u
  have HU := Lib.hid h64
  clear h64
  go_enter Tryz.func59, Tryz.ntmps59
  go_wp2_with fail
  refine wp_region_held_drew (S := fun W => Hid (Below w.heap.size w W)) (by kernel_rfl) ?_ (fun hHeld => ?_)
  · exact (Below.refl _ w).drew
  refine wpAnyH_take (i := 0) (v := ?_) (by simp only [List.getElem?_toArray, List.getElem?_cons_zero]; rfl) (by kernel_rfl) (by kernel_rfl) (by kernel_rfl) (by exact fun _ _ _ h => h) (Or.inl ⟨by rfl, ?_⟩) (by assumption) ?_
  rotate_left
  · intro W hSw
    obtain hS1 := hSw
    go_simp
    first | done | with_reducible rfl
  rotate_left
  simp only [Act.put, List.setIfInBounds_toArray, List.set_cons_zero, List.set_cons_succ]
  refine wpAnyH_take (i := 1) (v := ?_) (by simp only [List.getElem?_toArray, List.getElem?_cons_zero, List.getElem?_cons_succ]; rfl) (by kernel_rfl) (by kernel_rfl) (by kernel_rfl) (by exact fun _ _ _ h => h) (Or.inl ⟨by rfl, ?_⟩) (by assumption) ?_
  rotate_left
  · intro W hSw
    obtain hS1 := hSw
    go_simp
    first | done | with_reducible rfl
  rotate_left
  simp only [Act.put, List.setIfInBounds_toArray, List.set_cons_zero, List.set_cons_succ]
  refine wpAnyH_take (i := 3) (v := ?_) (by simp only [List.getElem?_toArray, List.getElem?_cons_zero, List.getElem?_cons_succ]; rfl) (by kernel_rfl) (by kernel_rfl) (by kernel_rfl) (by exact fun _ _ _ h => h) (Or.inl ⟨by rfl, ?_⟩) (by assumption) ?_
  rotate_left
  · intro W hSw
    obtain hS1 := hSw
    go_simp
    first | done | with_reducible rfl
  rotate_left
  simp only [Act.put, List.setIfInBounds_toArray, List.set_cons_zero, List.set_cons_succ]
  refine wpAnyH_take (i := 4) (v := ?_) (by simp only [List.getElem?_toArray, List.getElem?_cons_zero, List.getElem?_cons_succ]; rfl) (by kernel_rfl) (by kernel_rfl) (by kernel_rfl) (by exact fun _ _ _ h => h) (Or.inl ⟨by rfl, ?_⟩) (by assumption) ?_
  rotate_left
  · intro W hSw
    obtain hS1 := hSw
    go_simp
    first | done | with_reducible rfl
  rotate_left
  simp only [Act.put, List.setIfInBounds_toArray, List.set_cons_zero, List.set_cons_succ]
  refine wpAnyH_take (i := 5) (v := ?_) (by simp only [List.getElem?_toArray, List.getElem?_cons_zero, List.getElem?_cons_succ]; rfl) (by kernel_rfl) (by kernel_rfl) (by kernel_rfl) (by exact fun _ _ _ h => h) (Or.inl ⟨by rfl, ?_⟩) (by assumption) ?_
  rotate_left
  · intro W hSw
    obtain hS1 := hSw
    go_simp
    first | done | with_reducible rfl
  rotate_left
  simp only [Act.put, List.setIfInBounds_toArray, List.set_cons_zero, List.set_cons_succ]
  refine wpAnyH_take (i := 6) (v := ?_) (by simp only [List.getElem?_toArray, List.getElem?_cons_zero, List.getElem?_cons_succ]; rfl) (by kernel_rfl) (by kernel_rfl) (by kernel_rfl) (by exact fun _ _ _ h => h) (Or.inl ⟨by rfl, ?_⟩) (by assumption) ?_
  rotate_left
  · intro W hSw
    obtain hS1 := hSw
    go_simp
    first | done | with_reducible rfl
  rotate_left
  simp only [Act.put, List.setIfInBounds_toArray, List.set_cons_zero, List.set_cons_succ]
  refine wpAnyH_ready (rs := [2, 7]) (by kernel_rfl) (by simp) ?_
  refine AllReadyH.cons (o := _) rfl (fun K hK => ?_) (AllReadyH.cons (o := _) rfl (fun K hK => ?_) AllReadyH.nil)
  · go_simp
    refine (ih _).mono ?_
    rintro e w1 ⟨rfl, hb1⟩
    have hb1' : Below w.heap.size w w1 := (Below.refl _ w).drew.trans hb1
    refine hK.out _ w1 hb1' (fun _ => ?_)
    refine wpAnyH_ready (rs := [7]) (by kernel_rfl) (by simp) ?_
    refine AllReadyH.cons (o := _) rfl (fun K hK => ?_) AllReadyH.nil
    go_simp
    refine hK.out _ _ (hb1'.alloc hb1'.size _) (fun _ => ?_)
    refine dig_held (S2 := fun W => OneByte w1.heap.size ((48 + u % 10 : Nat) : Int) W ∧ Hid (Below w.heap.size w W)) (fun _ h => h.2) _ _ _ _ ?_
    have hH : OneByte w1.heap.size ((48 + u % 10 : Nat) : Int) (w1.alloc (.cells #[.int .u8 ((48 + u % 10 : Nat) : Int)] 5)) ∧ Hid (Below w.heap.size w (w1.alloc (.cells #[.int .u8 ((48 + u % 10 : Nat) : Int)] 5))) := ⟨OneByte.made _ _ _, hb1'.alloc hb1'.size _⟩
    refine wpAnyH_take (i := 8) (v := ?_) (by simp only [List.getElem?_toArray, List.getElem?_cons_zero, List.getElem?_cons_succ]; rfl) (by kernel_rfl) (by kernel_rfl) (by kernel_rfl) (by exact fun _ _ _ h => h) (Or.inl ⟨by rfl, ?_⟩) (by assumption) ?_
    rotate_left
    · intro W hSw
      obtain ⟨hS1, hS2⟩ := hSw
      have hcv := hS1.conv
      go_simp
      first | done | with_reducible rfl
    rotate_left
    simp only [Act.put, List.setIfInBounds_toArray, List.set_cons_zero, List.set_cons_succ]
    refine wpAnyH_take (i := 9) (v := ?_) (by simp only [List.getElem?_toArray, List.getElem?_cons_zero, List.getElem?_cons_succ]; rfl) (by kernel_rfl) (by kernel_rfl) (by kernel_rfl) (by exact fun _ _ _ h => h) (Or.inl ⟨by rfl, ?_⟩) (by assumption) ?_
    rotate_left
    · intro W hSw
      obtain ⟨hS1, hS2⟩ := hSw
      go_simp
      first | done | with_reducible rfl
    rotate_left
    simp only [Act.put, List.setIfInBounds_toArray, List.set_cons_zero, List.set_cons_succ]
    refine wpAnyH_take (i := 10) (v := ?_) (by simp only [List.getElem?_toArray, List.getElem?_cons_zero, List.getElem?_cons_succ]; rfl) (by kernel_rfl) (by kernel_rfl) (by kernel_rfl) (by exact fun _ _ _ h => h) (Or.inl ⟨by rfl, ?_⟩) (by assumption) ?_
    rotate_left
    · intro W hSw
      obtain ⟨hS1, hS2⟩ := hSw
      go_simp
      first | done | with_reducible rfl
    rotate_left
    simp only [Act.put, List.setIfInBounds_toArray, List.set_cons_zero, List.set_cons_succ]
    refine wpAnyH_done (by kernel_rfl) ?_ _
    go_simp
    go_wp2_with fail
    go_ret
    exact ⟨rfl, hH.2.out⟩
  · go_simp
    have hb1' : Below w.heap.size w (w.alloc (.cells #[.int .u8 ((48 + u % 10 : Nat) : Int)] 5)).drew := ((Below.refl _ w).alloc (Nat.le_refl _) _).drew
    refine hK.out _ _ hb1' (fun _ => ?_)
    refine dig_held (S2 := fun W => OneByte w.heap.size ((48 + u % 10 : Nat) : Int) W ∧ Hid (Below w.heap.size w W)) (fun _ h => h.2) _ _ _ _ ?_
    have hH : OneByte w.heap.size ((48 + u % 10 : Nat) : Int) (w.alloc (.cells #[.int .u8 ((48 + u % 10 : Nat) : Int)] 5)).drew ∧ Hid (Below w.heap.size w (w.alloc (.cells #[.int .u8 ((48 + u % 10 : Nat) : Int)] 5)).drew) := ⟨OneByte.made _ _ _, hb1'⟩
    refine wpAnyH_take (i := 8) (v := ?_) (by simp only [List.getElem?_toArray, List.getElem?_cons_zero, List.getElem?_cons_succ]; rfl) (by kernel_rfl) (by kernel_rfl) (by kernel_rfl) (by exact fun _ _ _ h => h) (Or.inl ⟨by rfl, ?_⟩) (by assumption) ?_
    rotate_left
    · intro W hSw
      obtain ⟨hS1, hS2⟩ := hSw
      have hcv := hS1.conv
      go_simp
      first | done | with_reducible rfl
    rotate_left
    simp only [Act.put, List.setIfInBounds_toArray, List.set_cons_zero, List.set_cons_succ]
    refine wpAnyH_ready (rs := [2]) (by kernel_rfl) (by simp) ?_
    refine AllReadyH.cons (o := _) rfl (fun K hK => ?_) AllReadyH.nil
    go_simp
    refine (ih _).mono ?_
    rintro e w1 ⟨rfl, hb1⟩
    have hb2 : Below w.heap.size w w1 := hb1'.trans (hb1.mono (by simp))
    have hH2 : OneByte w.heap.size ((48 + u % 10 : Nat) : Int) w1 ∧ Hid (Below w.heap.size w w1) := ⟨by
      have := hH.1
      unfold OneByte at this ⊢
      rw [hb1.cell (by simp)]
      exact this, hb2⟩
    refine hK.out _ w1 hH2 (fun _ => ?_)
    refine wpAnyH_take (i := 9) (v := ?_) (by simp only [List.getElem?_toArray, List.getElem?_cons_zero, List.getElem?_cons_succ]; rfl) (by kernel_rfl) (by kernel_rfl) (by kernel_rfl) (by exact fun _ _ _ h => h) (Or.inl ⟨by rfl, ?_⟩) (by assumption) ?_
    rotate_left
    · intro W hSw
      obtain ⟨hS1, hS2⟩ := hSw
      go_simp
      first | done | with_reducible rfl
    rotate_left
    simp only [Act.put, List.setIfInBounds_toArray, List.set_cons_zero, List.set_cons_succ]
    refine wpAnyH_take (i := 10) (v := ?_) (by simp only [List.getElem?_toArray, List.getElem?_cons_zero, List.getElem?_cons_succ]; rfl) (by kernel_rfl) (by kernel_rfl) (by kernel_rfl) (by exact fun _ _ _ h => h) (Or.inl ⟨by rfl, ?_⟩) (by assumption) ?_
    rotate_left
    · intro W hSw
      obtain ⟨hS1, hS2⟩ := hSw
      go_simp
      first | done | with_reducible rfl
    rotate_left
    simp only [Act.put, List.setIfInBounds_toArray, List.set_cons_zero, List.set_cons_succ]
    refine wpAnyH_done (by kernel_rfl) ?_ _
    go_simp
    go_wp2_with fail
    go_ret
    exact ⟨rfl, hb2⟩

/-- The digits of a number, none of 0. -/
def dec0 (u : Nat) : List UInt8 := if u = 0 then [] else Lib.decDigits u

theorem dec0_pos {u : Nat} (h : ¬ u = 0) : dec0 u = Lib.decDigits u := if_neg h

theorem dec0_step {u : Nat} (h : ¬ u = 0) : dec0 u = dec0 (u / 10) ++ [dgB u] := by
  rw [dec0_pos h, Lib.decDigits]
  by_cases h10 : u < 10
  · rw [dif_pos h10]
    have e : u / 10 = 0 := by omega
    rw [e]
    unfold dec0 dgB
    rw [if_pos rfl, Nat.mod_eq_of_lt h10]
    rfl
  · rw [dif_neg h10, dec0_pos (by omega)]
    rfl

theorem dec0_length {u : Nat} (k : Nat) (h : u < 10 ^ k) : (dec0 u).length ≤ k := by
  induction k generalizing u with
  | zero =>
    have : u = 0 := by simpa using h
    subst this
    simp [dec0]
  | succ k ih =>
    by_cases h0 : u = 0
    · subst h0; simp [dec0]
    · rw [dec0_step h0, List.length_append]
      have := ih (u := u / 10) (by rw [Nat.pow_succ] at h; omega)
      simp
      omega

theorem size_list (l : List UInt8) : (⟨l.toArray⟩ : ByteArray).size = l.length := by
  simp [ByteArray.size]

theorem append_list (l r : List UInt8) : (⟨l.toArray⟩ : ByteArray) ++ ⟨r.toArray⟩ = ⟨(l ++ r).toArray⟩ := by
  apply ByteArray.ext
  simp

theorem rdigits_zero (w : World) :
    Calls Tryz.prog 59 #[.int .u64 0] w fun e w' => e = .returned (.string ⟨#[]⟩) ∧ Below w.heap.size w w' := by
  go_enter Tryz.func59, Tryz.ntmps59
  go_wp2_with fail
  go_ret
  exact ⟨rfl, Below.refl _ _⟩

theorem rdigits_any (k : Nat) : ∀ (u : Nat), u < 10 ^ k → k ≤ 20 → u < 18446744073709551616 → ∀ (w : World),
    Calls Tryz.prog 59 #[.int .u64 (u : Int)] w fun e w' => e = .returned (.string ⟨(dec0 u).toArray⟩) ∧ Below w.heap.size w w' := by
  induction k with
  | zero =>
    intro u h _ _ w
    have : u = 0 := by simpa using h
    subst this
    exact rdigits_zero w
  | succ k ih =>
    intro u h hk h64 w
    by_cases h0 : u = 0
    · subst h0
      exact rdigits_zero w
    · have hlt : u / 10 < 10 ^ k := by rw [Nat.pow_succ] at h; omega
      have hl := dec0_length k hlt
      have e : ((u : Int) / 10) = ((u / 10 : Nat) : Int) := by omega
      have := rdigits_step u w h0 h64 ⟨(dec0 (u / 10)).toArray⟩ (by rw [size_list]; omega) (by rw [e]; exact ih (u / 10) hlt (by omega) (by omega))
      have ea : (⟨(dec0 (u / 10)).toArray⟩ : ByteArray) ++ ⟨#[dgB u]⟩ = ⟨(dec0 u).toArray⟩ := by
        rw [dec0_step h0]
        exact append_list _ [dgB u]
      rw [ea] at this
      exact this

theorem itoa_neg {n : Int} (h : n < 0) : Lib.itoa n = 45 :: dec0 n.natAbs := by
  unfold Lib.itoa
  rw [if_pos h, dec0_pos (by omega)]

theorem itoa_pos {n : Int} (h : 0 < n) : Lib.itoa n = dec0 n.natAbs := by
  unfold Lib.itoa
  rw [if_neg (by omega), dec0_pos (by omega)]
  congr 1
  omega

theorem rtext_any (n : Int) (w : World) (h0 : -9223372036854775808 ≤ n) (h1 : n ≤ 9223372036854775807) :
    Calls Tryz.prog 26 #[.int .i64 n] w fun e w' => e = .returned (.string ⟨(Lib.itoa n).toArray⟩) ∧ Below w.heap.size w w' := by
  rcases Int.lt_trichotomy n 0 with h | h | h
  · have hl := dec0_length (u := n.natAbs) 19 (by omega)
    have ea : (⟨#[45]⟩ : ByteArray) ++ ⟨(dec0 n.natAbs).toArray⟩ = ⟨(Lib.itoa n).toArray⟩ := by
      rw [itoa_neg h]
      exact append_list [45] _
    have hlen : ¬ 9223372036854775807 < 1 + (dec0 n.natAbs).length := by omega
    have EA := Lib.hid ea
    have HL := Lib.hid hl
    have D := Lib.hid (rdigits_any 19 n.natAbs (by omega) (by omega) (by omega))
    clear ea hl
    go_enter Tryz.func26, Tryz.ntmps26
    go_wp2_with (go_at_call 60; refine (rsize_any _ _ ?_ ?_).mono ?_; assumption; assumption; rintro e w' ⟨rfl, rfl⟩)
    refine (D.out _).mono ?_
    rintro e w1 ⟨rfl, hb⟩
    go_wp2_with fail
    go_ret
    refine ⟨?_, hb⟩
    simp only [Array.getD_eq_getD_getElem?]
    rw [← EA.out]
    rfl
  · subst h
    go_enter Tryz.func26, Tryz.ntmps26
    go_wp2_with fail
    go_ret
    exact ⟨by rw [show Lib.itoa 0 = [48] from by decide +kernel]; rfl, Below.refl _ _⟩
  · have D := Lib.hid (rdigits_any 19 n.natAbs (by omega) (by omega) (by omega))
    have hn : ¬ n < 0 := by omega
    have hn0 : ¬ n = 0 := by omega
    have EA := Lib.hid (itoa_pos h)
    clear h
    go_enter Tryz.func26, Tryz.ntmps26
    go_wp2_with (go_at_call 60; refine (rsize_any _ _ ?_ ?_).mono ?_; assumption; assumption; rintro e w' ⟨rfl, rfl⟩)
    refine (D.out _).mono ?_
    rintro e w1 ⟨rfl, hb⟩
    go_wp2_with fail
    go_ret
    exact ⟨by rw [EA.out]; rfl, hb⟩

theorem errAt_of {n nm : String} {d : DataW Unit} {rest : List (String × DataW Unit)} {W : World} (hg : Tryz.prog.globalNamed n = some 3)
    (h : laidMet Tryz.prog ((n, .iface nm d) :: rest) W) : ErrAt W := by
  obtain ⟨ps, ⟨g0, t0, cs0, f0, p0, q0, hg0, ht0, hv0, hd0, _, e0⟩, _, _⟩ := h
  obtain rfl := Option.some.inj (hg.symm.trans hg0)
  obtain rfl := Option.some.inj ((show (Tryz.prog.globals[3]?).map (·.type) = some 148 by kernel_rfl).symm.trans ht0)
  obtain ⟨f1, u, v, hcs, _, _⟩ := iface_of_trod Tryz.underlying148 hd0
  have := World.var?_cell hg hv0 0
  obtain ⟨l0⟩ := cs0
  simp only at hcs
  subst hcs
  exact ⟨u, v, by simpa using this⟩

/-- A digit. -/
def isDg (c : UInt8) : Bool := decide (48 ≤ c.toNat) && decide (c.toNat ≤ 57)

theorem isDg_iff {c : UInt8} : isDg c = true ↔ 48 ≤ c.toNat ∧ c.toNat ≤ 57 := by simp [isDg]

/-- How many digits a text begins with. -/
def dgK : List UInt8 → Nat
  | [] => 0
  | c :: r => if isDg c = true then dgK r + 1 else 0

theorem dgK_le : ∀ l : List UInt8, dgK l ≤ l.length
  | [] => Nat.le_refl _
  | c :: r => by
    have := dgK_le r
    unfold dgK
    split <;> simp <;> omega

theorem dgK_yes : ∀ (l : List UInt8) (k : Nat) (hk : k < l.length), k ≤ dgK l → isDg l[k] = true → k + 1 ≤ dgK l
  | c :: r, 0, _, _, hd => by
    have hd : isDg c = true := hd
    unfold dgK
    rw [if_pos hd]
    omega
  | c :: r, k + 1, hk, h, hd => by
    unfold dgK at h ⊢
    split at h
    · rw [if_pos (by assumption)]
      have := dgK_yes r k (by simpa using hk) (by omega) (by simpa using hd)
      omega
    · omega

theorem dgK_no : ∀ (l : List UInt8) (k : Nat) (hk : k < l.length), k ≤ dgK l → isDg l[k] = false → k = dgK l
  | c :: r, 0, _, _, hd => by
    have hd : isDg c = false := hd
    unfold dgK
    rw [hd, if_neg (by decide)]
  | c :: r, k + 1, hk, h, hd => by
    unfold dgK at h ⊢
    split at h
    · rw [if_pos (by assumption)]
      have := dgK_no r k (by simpa using hk) (by omega) (by simpa using hd)
      omega
    · omega

theorem dgK_digit : ∀ (l : List UInt8) (k : Nat) (hk : k < l.length), k < dgK l → isDg l[k] = true
  | c :: r, 0, _, h => by
    unfold dgK at h
    split at h
    · simpa
    · omega
  | c :: r, k + 1, hk, h => by
    unfold dgK at h
    split at h
    · simpa using dgK_digit r k (by simpa using hk) (by omega)
    · omega

theorem dgK_take (l : List UInt8) : ∀ c ∈ l.take (dgK l), isDg c = true := by
  intro c hc
  obtain ⟨i, hi, rfl⟩ := List.getElem_of_mem hc
  simp only [List.length_take] at hi
  rw [List.getElem_take]
  exact dgK_digit l i (by omega) (by omega)

theorem dgK_append_all : ∀ (d t : List UInt8), (∀ c ∈ d, isDg c = true) → (∀ c r, t = c :: r → isDg c = false) → dgK (d ++ t) = d.length
  | [], t, _, ht => by
    cases t with
    | nil => rfl
    | cons c r => simp [dgK, ht c r rfl]
  | c :: d, t, hd, ht => by
    have h1 := hd c (by simp)
    have := dgK_append_all d t (fun c hc => hd c (by simp [hc])) ht
    simp [dgK, h1, this]

/-- The number that digits spell, behind a number. -/
def dvalF (n : Nat) (l : List UInt8) : Nat := l.foldl (fun n c => 10 * n + (c.toNat - 48)) n

def dval (l : List UInt8) : Nat := dvalF 0 l

theorem dvalF_ge (l : List UInt8) : ∀ n, n ≤ dvalF n l := by
  induction l with
  | nil => intro n; exact Nat.le_refl _
  | cons c r ih => intro n; have := ih (10 * n + (c.toNat - 48)); simp only [dvalF, List.foldl_cons] at this ⊢; omega

theorem dvalF_append (n : Nat) (a b : List UInt8) : dvalF n (a ++ b) = dvalF (dvalF n a) b := by
  simp [dvalF, List.foldl_append]

theorem dval_snoc (l : List UInt8) (c : UInt8) : dval (l ++ [c]) = 10 * dval l + (c.toNat - 48) := by
  simp [dval, dvalF, List.foldl_append]

theorem dval_mono (l : List UInt8) (i j : Nat) (h : i ≤ j) : dval (l.take i) ≤ dval (l.take j) := by
  have e : l.take j = l.take i ++ (l.drop i).take (j - i) := by
    rw [← List.take_add]
    congr 1
    omega
  rw [e]
  unfold dval
  rw [dvalF_append]
  exact dvalF_ge _ _

theorem parse_digits : ∀ (l : List UInt8) (n : Nat), (∀ c ∈ l, isDg c = true) → n < 18446744073709551616 →
    Lib.parseUint10 n l = if dvalF n l < 18446744073709551616 then .ok (dvalF n l) else .range
  | [], n, _, hn => by
    simp [Lib.parseUint10, dvalF, hn]
  | c :: r, n, h, hn => by
    have hc := isDg_iff.1 (h c (by simp))
    have e : dvalF n (c :: r) = dvalF (n * 10 + (c.toNat - 48)) r := by simp [dvalF, Nat.mul_comm]
    have hge := dvalF_ge r (n * 10 + (c.toNat - 48))
    rw [e]
    unfold Lib.parseUint10
    rw [if_pos hc]
    by_cases h1 : 1844674407370955162 ≤ n
    · rw [if_pos h1, if_neg (by omega)]
    · rw [if_neg h1]
      by_cases h2 : 18446744073709551616 ≤ n * 10 + (c.toNat - 48)
      · rw [if_pos h2, if_neg (by omega)]
      · rw [if_neg h2]
        exact parse_digits r _ (fun c hc => h c (by simp [hc])) (by omega)

theorem atoi_digits (l : List UInt8) (h : ∀ c ∈ l, isDg c = true) (hl : l ≠ []) :
    Lib.atoiAll l = if dval l ≤ 9223372036854775807 then .ok (dval l : Int) else .range := by
  cases l with
  | nil => exact absurd rfl hl
  | cons c r =>
    have hc := isDg_iff.1 (h c (by simp))
    unfold Lib.atoiAll
    simp only [if_neg (show ¬ (c.toNat = 43 ∨ c.toNat = 45) by omega)]
    unfold Lib.parseMag
    rw [if_neg hl, parse_digits _ 0 h (by decide)]
    show _ = if dvalF 0 (c :: r) ≤ _ then Lib.NumEnd.ok (dvalF 0 (c :: r) : Int) else .range
    by_cases h1 : dvalF 0 (c :: r) < 18446744073709551616
    · rw [if_pos h1]
      simp only [if_neg (show ¬ c.toNat = 45 by omega)]
      by_cases h2 : dvalF 0 (c :: r) ≤ 9223372036854775807
      · rw [if_pos h2, if_neg (by omega), if_neg (by omega)]
      · rw [if_neg h2, if_pos (by omega)]
    · rw [if_neg h1, if_neg (by omega)]

/-- How a text is parsed: the fault. -/
def pE (l : List UInt8) : Int :=
  if l = [] then 3 else if dgK l = 0 ∨ (1 < dgK l ∧ l.head? = some 48) then 4 else if dval (l.take (dgK l)) ≤ 9223372036854775807 then 0 else 20

/-- The number. -/
def pV (l : List UInt8) : Int := if pE l = 0 then (dval (l.take (dgK l)) : Int) else 0

/-- The digits' count. -/
def pN (l : List UInt8) : Int := if pE l = 0 then (dgK l : Int) else 0

theorem pE_nil : pE [] = 3 ∧ pV [] = 0 ∧ pN [] = 0 := ⟨rfl, rfl, rfl⟩

theorem p_form {l : List UInt8} (h0 : l ≠ []) (h : dgK l = 0 ∨ (1 < dgK l ∧ l.head? = some 48)) : pE l = 4 ∧ pV l = 0 ∧ pN l = 0 := by
  have e : pE l = 4 := by unfold pE; rw [if_neg h0, if_pos h]
  refine ⟨e, ?_, ?_⟩
  · unfold pV; rw [e]; rfl
  · unfold pN; rw [e]; rfl

theorem p_ok {l : List UInt8} (h0 : l ≠ []) (h : ¬ (dgK l = 0 ∨ (1 < dgK l ∧ l.head? = some 48))) (hv : dval (l.take (dgK l)) ≤ 9223372036854775807) : pE l = 0 ∧ pV l = dval (l.take (dgK l)) ∧ pN l = dgK l := by
  have e : pE l = 0 := by unfold pE; rw [if_neg h0, if_neg h, if_pos hv]
  refine ⟨e, ?_, ?_⟩
  · unfold pV; rw [if_pos e]
  · unfold pN; rw [if_pos e]

theorem p_num {l : List UInt8} (h0 : l ≠ []) (h : ¬ (dgK l = 0 ∨ (1 < dgK l ∧ l.head? = some 48))) (hv : 9223372036854775807 < dval (l.take (dgK l))) : pE l = 20 ∧ pV l = 0 ∧ pN l = 0 := by
  have e : pE l = 20 := by unfold pE; rw [if_neg h0, if_neg h, if_neg (by omega)]
  refine ⟨e, ?_, ?_⟩
  · unfold pV; rw [e]; rfl
  · unfold pN; rw [e]; rfl

theorem dec_one {u : Nat} (h : u < 10) : Lib.decDigits u = [UInt8.ofNat (48 + u)] := by rw [Lib.decDigits, dif_pos h]
theorem dec_more {u : Nat} (h : ¬ u < 10) : Lib.decDigits u = Lib.decDigits (u / 10) ++ [UInt8.ofNat (48 + u % 10)] := by rw [Lib.decDigits, dif_neg h]

theorem dig_byte_nat {d : Nat} (h : d < 10) : (UInt8.ofNat (48 + d)).toNat = 48 + d := by
  rw [UInt8.toNat_ofNat']
  omega

theorem dec_digits (u : Nat) : ∀ c ∈ Lib.decDigits u, isDg c = true := by
  induction u using Nat.strongRecOn with
  | ind u ih =>
    intro c hc
    by_cases h : u < 10
    · rw [dec_one h] at hc
      obtain rfl := List.mem_singleton.1 hc
      exact isDg_iff.2 (by rw [dig_byte_nat h]; omega)
    · rw [dec_more h] at hc
      rcases List.mem_append.1 hc with hc | hc
      · exact ih (u / 10) (by omega) c hc
      · obtain rfl := List.mem_singleton.1 hc
        have := dig_byte_nat (d := u % 10) (by omega)
        exact isDg_iff.2 (by omega)

theorem dec_val (u : Nat) : dval (Lib.decDigits u) = u := by
  induction u using Nat.strongRecOn with
  | ind u ih =>
    by_cases h : u < 10
    · rw [dec_one h]
      show 10 * 0 + ((UInt8.ofNat (48 + u)).toNat - 48) = u
      rw [dig_byte_nat h]
      omega
    · rw [dec_more h, dval_snoc, ih (u / 10) (by omega)]
      have := dig_byte_nat (d := u % 10) (by omega)
      omega

theorem dec_pos (u : Nat) : 0 < (Lib.decDigits u).length := by
  by_cases h : u < 10
  · rw [dec_one h]; simp
  · rw [dec_more h]; simp

theorem dec_len {u : Nat} (k : Nat) (h : u < 10 ^ (k + 1)) : (Lib.decDigits u).length ≤ k + 1 := by
  induction k generalizing u with
  | zero => rw [dec_one (by simpa using h)]; simp
  | succ k ih =>
    by_cases h1 : u < 10
    · rw [dec_one h1]; simp
    · rw [dec_more h1]
      have := ih (u := u / 10) (by rw [Nat.pow_succ] at h; omega)
      simp
      omega

theorem head_app (l r : List UInt8) (h : l ≠ []) : (l ++ r).head? = l.head? := by cases l with
  | nil => exact absurd rfl h
  | cons a b => rfl

theorem dec_head (u : Nat) (hu : 0 < u) : (Lib.decDigits u).head? ≠ some 48 := by
  induction u using Nat.strongRecOn with
  | ind u ih =>
    by_cases h : u < 10
    · rw [dec_one h]
      intro e
      have e2 : (UInt8.ofNat (48 + u)).toNat = 48 := by
        simp only [List.head?_cons, Option.some.injEq] at e
        rw [e]; rfl
      rw [dig_byte_nat h] at e2
      omega
    · rw [dec_more h]
      have hp := dec_pos (u / 10)
      rw [head_app _ _ (List.ne_nil_of_length_pos hp)]
      exact ih (u / 10) (by omega) (by omega)

/-- A numeral and what stands behind it: the numeral is read. -/
theorem dec_parse (u : Nat) (t : List UInt8) (hu : u ≤ 9223372036854775807) (ht : ∀ c r, t = c :: r → isDg c = false) :
    pE (Lib.decDigits u ++ t) = 0 ∧ pV (Lib.decDigits u ++ t) = u ∧ pN (Lib.decDigits u ++ t) = (Lib.decDigits u).length := by
  have hk := dgK_append_all (Lib.decDigits u) t (dec_digits u) ht
  have hp := dec_pos u
  have hne : Lib.decDigits u ++ t ≠ [] := by
    intro e
    have := congrArg List.length e
    rw [List.length_append] at this
    simp only [List.length_nil] at this
    omega
  have htk : (Lib.decDigits u ++ t).take (dgK (Lib.decDigits u ++ t)) = Lib.decDigits u := by rw [hk, List.take_left]
  have hv := dec_val u
  have := p_ok hne (by
    rw [hk]
    rintro (h | ⟨h1, h2⟩)
    · omega
    · rw [head_app _ _ (List.ne_nil_of_length_pos hp)] at h2
      rcases Nat.eq_zero_or_pos u with rfl | hu
      · rw [dec_one (by decide)] at h1
        simp at h1
      · exact dec_head u hu h2) (by rw [htk, hv]; exact hu)
  rw [htk, hv, hk] at this
  exact this

theorem isDg_of {c : UInt8} (h1 : 48 ≤ (c.toNat : Int)) (h2 : (c.toNat : Int) ≤ 57) : isDg c = true := isDg_iff.2 ⟨by omega, by omega⟩
theorem isDg_not {c : UInt8} (h : ¬ (48 ≤ (c.toNat : Int) ∧ (c.toNat : Int) ≤ 57)) : isDg c = false := by
  cases e : isDg c with
  | false => rfl
  | true => exact absurd (isDg_iff.1 e) (by omega)

set_option maxHeartbeats 400000 in
set_option maxRecDepth 20000 in
theorem cdigits_any (s : ByteArray) (w : World) (hs : s.size ≤ 140737488351232) :
    Calls Tryz.prog 115 #[.string s] w fun e w' => e = .returned (.int .i64 (dgK s.data.toList)) ∧ w = w' := by
  have HL : Hid (dgK s.data.toList ≤ s.size) := Lib.hid (by simpa using dgK_le s.data.toList)
  go_enter Tryz.func115, Tryz.ntmps115
  go_wp2
  go_loop [3] (fun i => ∃ k : Nat, k ≤ dgK s.data.toList ∧ i = .int .i64 k) (fun i => s.size - (intOf i).toNat)
  case atStart => exact ⟨0, Nat.zero_le _, rfl⟩
  case round =>
    obtain ⟨k, hk, rfl⟩ := hrel
    have hks : k ≤ s.size := by have := HL.out; omega
    by_cases hlt : k < s.size
    · have hy := Lib.hid (dgK_yes s.data.toList k (by simpa using hlt) hk)
      have hn := Lib.hid (dgK_no s.data.toList k (by simpa using hlt) hk)
      have HK := Lib.hid hk
      clear hk
      go_wp2
      · go_round
        case rel => exact ⟨k + 1, hy.out (isDg_of (by assumption) (by assumption)), by go_num⟩
        case measure => simp [intOf]; omega
      all_goals
        go_ret
        have he := hn.out (isDg_not (by simp only [Array.getElem_toList]; show ¬ (48 ≤ (s[k].toNat : Int) ∧ (s[k].toNat : Int) ≤ 57); omega))
        exact ⟨by rw [← he]; rfl, rfl⟩
    · have he : k = dgK s.data.toList := by have := HL.out; omega
      have HE := Lib.hid he
      clear he
      go_wp2
      go_ret
      exact ⟨by rw [← HE.out]; rfl, rfl⟩

theorem head_some {s : ByteArray} (h : 0 < s.size) : s.data.toList.head? = some s[0] := by
  rw [List.head?_eq_getElem?, List.getElem?_eq_getElem (by simpa using h)]
  rfl

theorem take_more (s : ByteArray) (k : Nat) (h : k < s.size) : s.data.toList.take (k + 1) = s.data.toList.take k ++ [s[k]] := by
  rw [List.take_succ_eq_append_getElem (by simpa using h)]
  rfl

set_option maxHeartbeats 800000 in
set_option maxRecDepth 20000 in
theorem rparse_any (s : ByteArray) (w : World) (hs : s.size ≤ 140737488351232) :
    Calls Tryz.prog 57 #[.string s] w fun e w' => e = .returned (.tuple #[.int .i64 (pV s.data.toList), .int .i64 (pN s.data.toList), .int .i64 (pE s.data.toList)]) ∧ w = w' := by
  by_cases hl0 : s.size = 0
  · have hn : s.data.toList = [] := List.eq_nil_of_length_eq_zero (by simpa using hl0)
    have hl0' : (s.size : Int) = 0 := by omega
    rw [hn, pE_nil.1, pE_nil.2.1, pE_nil.2.2]
    clear hn hl0
    go_enter Tryz.func57, Tryz.ntmps57
    go_wp2_with fail
    go_ret3
    exact ⟨rfl, rfl⟩
  have hl0' : ((s.size : Int) == 0) = false := by simp only [beq_eq_false_iff_ne]; omega
  have hne : s.data.toList ≠ [] := by
    intro e
    have := congrArg List.length e
    exact hl0 (show s.data.toList.length = 0 from this)
  have HNE := Lib.hid hne
  have HL : Hid (dgK s.data.toList ≤ s.size) := Lib.hid (by simpa using dgK_le s.data.toList)
  clear hne
  go_enter Tryz.func57, Tryz.ntmps57
  go_upto_block 0 with fail
  go_cut [5] (fun v wx => v = .int .i64 (dgK s.data.toList) ∧ wx = w)
  case first =>
    go_wp2_with fail
    go_loop [5] (fun i => ∃ k : Nat, k ≤ dgK s.data.toList ∧ i = .int .i64 k) (fun i => s.size - (intOf i).toNat)
    case atStart => exact ⟨0, Nat.zero_le _, rfl⟩
    case round =>
      obtain ⟨k, hk, rfl⟩ := hrel
      have hks : k ≤ s.size := by have := HL.out; omega
      by_cases hlt : k < s.size
      · have hy := Lib.hid (dgK_yes s.data.toList k (by simpa using hlt) hk)
        have hn := Lib.hid (dgK_no s.data.toList k (by simpa using hlt) hk)
        have HK := Lib.hid hk
        clear hk
        go_wp2
        · go_round
          case rel => exact ⟨k + 1, hy.out (isDg_of (by assumption) (by assumption)), by go_num⟩
          case measure => simp [intOf]; omega
        all_goals
          have he := Lib.hid (hn.out (isDg_not (by simp only [Array.getElem_toList]; show ¬ (48 ≤ (s[k].toNat : Int) ∧ (s[k].toNat : Int) ≤ 57); omega)))
          go_meet
          exact (by rw [← he.out]; exact ⟨rfl, rfl⟩)
      · have he : k = dgK s.data.toList := by have := HL.out; omega
        have HE := Lib.hid he
        clear he
        go_wp2
        go_meet
        exact (by rw [← HE.out]; exact ⟨rfl, rfl⟩)
  case rest =>
    obtain ⟨rfl, rfl⟩ := hcut
    have hpos : 0 < s.size := by omega
    have HH := Lib.hid (head_some hpos)
    have HV0 := Lib.hid (Nat.lt_irrefl 0)
    obtain ⟨K, hK⟩ : ∃ K, dgK s.data.toList = K := ⟨_, rfl⟩
    rw [hK]
    have HK := Lib.hid hK
    have hKs : K ≤ s.size := by rw [← hK]; exact HL.out
    clear hK
    by_cases hbad : K = 0 ∨ (1 < K ∧ s[0] = 48)
    · have HP := Lib.hid (p_form HNE.out (by rw [HK.out, HH.out]; simpa using hbad))
      rcases hbad with rfl | ⟨h1, h2⟩
      · have e : (((0 : Nat) : Int) == 0) = true := rfl
        go_wp2_with fail
        go_ret3
        exact ⟨by rw [HP.out.1, HP.out.2.1, HP.out.2.2]; rfl, rfl⟩
      · have e : ((K : Int) == 0) = false := by simp only [beq_eq_false_iff_ne]; omega
        have e1 : (1 : Int) < K := by omega
        have e2 : ((s[0].toNat : Int) == 48) = true := by rw [h2]; rfl
        go_wp2_with fail
        go_ret3
        exact ⟨by rw [HP.out.1, HP.out.2.1, HP.out.2.2]; rfl, rfl⟩
    · have HB := Lib.hid hbad
      have hp : 0 < K := by omega
      have e : ((K : Int) == 0) = false := by simp only [beq_eq_false_iff_ne]; omega
      have hcase : (¬ (1 : Int) < K) ∨ ((1 : Int) < K ∧ ((s[0].toNat : Int) == 48) = false) := by
        by_cases h1 : 1 < K
        · refine .inr ⟨by omega, ?_⟩
          have h2 : ¬ s[0] = 48 := fun h2 => hbad (.inr ⟨h1, h2⟩)
          rw [beq_eq_false_iff_ne]
          intro e
          exact h2 (UInt8.toNat.inj (by rw [show (48 : UInt8).toNat = 48 from rfl]; omega))
        · exact .inl (by omega)
      clear hbad
      go_upto_region 6 with fail
      go_cut [40] (fun v wx => v = .bool false ∧ wx = wc)
      case first =>
        rcases hcase with h1 | ⟨h1, h2⟩
        · go_wp2_with fail
          go_meet
          exact ⟨rfl, rfl⟩
        · go_wp2_with fail
          go_meet
          exact ⟨rfl, rfl⟩
      case rest =>
        obtain ⟨rfl, rfl⟩ := hcut
        go_wp2_with fail
        go_loop [6, 7] (fun v i => ∃ j n : Nat, j ≤ K ∧ i = .int .i64 j ∧ v = .int .i64 n ∧ Hid (n = dval (s.data.toList.take j)) ∧ Hid (n ≤ 9223372036854775807)) (fun _ i => K - (intOf i).toNat)
        case atStart => exact ⟨0, 0, Nat.zero_le _, rfl, rfl, rfl, Nat.zero_le _⟩
        case round =>
          obtain ⟨j, n, hj, rfl, rfl, hn, hm⟩ := hrel
          by_cases hlt : j < K
          · have hjs : j < s.size := by omega
            have hdg := isDg_iff.1 (dgK_digit s.data.toList j (by simpa using hjs) (by rw [HK.out]; exact hlt))
            simp only [Array.getElem_toList] at hdg
            have hd0 : 48 ≤ (s[j].toNat : Int) := by have := hdg.1; show (48 : Int) ≤ ((s.data[j].toNat : Nat) : Int); omega
            have hd1 : (s[j].toNat : Int) ≤ 57 := by have := hdg.2; show ((s.data[j].toNat : Nat) : Int) ≤ 57; omega
            clear hdg
            have hlt' : (j : Int) < K := by omega
            have HS := Lib.hid (show dval (s.data.toList.take (j + 1)) = 10 * n + (s[j].toNat - 48) by rw [take_more s j hjs, dval_snoc, ← hn.out])
            go_wp2_with fail
            · have hgt : 9223372036854775807 < dval (s.data.toList.take (dgK s.data.toList)) := by
                have h1 := dval_mono s.data.toList (j + 1) K (by omega)
                rw [HK.out]
                rw [HS.out] at h1
                omega
              have HP := Lib.hid (p_num HNE.out (by rw [HK.out, HH.out]; simpa using HB.out) hgt)
              go_ret3
              exact ⟨by rw [HP.out.1, HP.out.2.1, HP.out.2.2]; rfl, rfl⟩
            · go_round
              case rel =>
                refine ⟨j + 1, 10 * n + (s[j].toNat - 48), by omega, by go_num, ?_, HS.out.symm, ?_⟩
                · congr 1
                  omega
                · show _ ≤ _
                  omega
              case measure => simp [intOf]; omega
          · have hlt' : ¬ (j : Int) < K := by omega
            have hjK : j = K := by omega
            subst hjK
            have HP := Lib.hid (p_ok HNE.out (by rw [HK.out, HH.out]; simpa using HB.out) (by rw [HK.out, ← hn.out]; exact hm.out))
            go_wp2_with fail
            go_ret3
            exact ⟨by rw [HP.out.1, HP.out.2.1, HP.out.2.2, HK.out, ← hn.out]; rfl, rfl⟩

theorem extract_list (s : ByteArray) (K : Nat) : (s.extract 0 K).data.toList = s.data.toList.take K := by
  simp

theorem atoi_ok (s : ByteArray) (n : Nat) (w : World) (hs : s.size ≤ 140737488351232) (h : Lib.atoiAll s.data.toList = .ok (n : Int)) :
    Calls Tryz.prog 116 #[.string s] w fun e w' => e = .returned (.tuple #[.int .i64 n, .nilIface]) ∧ Below w.heap.size w w' := by
  refine (Any.strconv_Atoi_ok Tryz.laysC172 s (by omega) n h w).mono ?_
  rintro e w' ⟨rfl, rfl | ⟨t, rfl⟩⟩
  · exact ⟨rfl, Below.refl _ _⟩
  · exact ⟨rfl, Lib.bytesWorld_below _ _ _⟩

theorem atoi_range (s : ByteArray) (w : World) (hs : s.size ≤ 140737488351232) (h : Lib.atoiAll s.data.toList = .range) (hE : ErrAt w) :
    Calls Tryz.prog 116 #[.string s] w fun e w' => ∃ n tp p, e = .returned (.tuple #[.int .i64 n, .iface tp p]) ∧ Below w.heap.size w w' := by
  obtain ⟨tp, p, hv⟩ := hE
  refine (Any.strconv_Atoi_range Tryz.laysC172 s (by omega) h (.iface tp p) w hv (.inr ⟨tp, p, rfl⟩)).mono ?_
  rintro e w' ⟨N, rfl, _, _, hb⟩
  exact ⟨_, _, _, rfl, hb⟩

set_option maxHeartbeats 800000 in
set_option maxRecDepth 20000 in
theorem parse_any (s : ByteArray) (w : World) (hs : s.size ≤ 140737488351232) (hE : ErrAt w) :
    Calls Tryz.prog 102 #[.string s] w fun e w' => e = .returned (.tuple #[.int .i64 (pV s.data.toList), .int .i64 (pN s.data.toList), .int .i64 (pE s.data.toList)]) ∧ Below w.heap.size w w' := by
  by_cases hl0 : s.size = 0
  · have hn : s.data.toList = [] := List.eq_nil_of_length_eq_zero (by simpa using hl0)
    have hs0 : s = ⟨#[]⟩ := ByteArray.ext (Array.toList_inj.1 hn)
    subst hs0
    rw [pE_nil.1, pE_nil.2.1, pE_nil.2.2]
    clear hl0 hn
    go_enter Tryz.func102, Tryz.ntmps102
    go_wp2_with fail
    go_ret3
    exact ⟨rfl, Below.refl _ _⟩
  have hne : s.data.toList ≠ [] := by
    intro e
    have := congrArg List.length e
    exact hl0 (show s.data.toList.length = 0 from this)
  have HNE := Lib.hid hne
  have HL : Hid (dgK s.data.toList ≤ s.size) := Lib.hid (by simpa using dgK_le s.data.toList)
  have hpos : 0 < s.size := by omega
  have hse : s.toList.isEmpty = false := by
    rw [Lib.toList_data]
    cases h : s.data.toList with
    | nil => exact absurd h hne
    | cons a b => rfl
  have HH := Lib.hid (head_some hpos)
  have HD := Lib.hid (cdigits_any s w hs)
  have HER := Lib.hid hE
  clear hne hE
  obtain ⟨K, hK⟩ : ∃ K, dgK s.data.toList = K := ⟨_, rfl⟩
  rw [hK] at HD
  have HK := Lib.hid hK
  have hKs : K ≤ s.size := by rw [← hK]; exact HL.out
  clear hK
  go_enter Tryz.func102, Tryz.ntmps102
  go_wp2_with fail
  refine HD.out.mono ?_
  rintro e w1 ⟨rfl, rfl⟩
  by_cases hbad : K = 0 ∨ (1 < K ∧ s[0] = 48)
  · have HP := Lib.hid (p_form HNE.out (by rw [HK.out, HH.out]; simpa using hbad))
    rcases hbad with rfl | ⟨h1, h2⟩
    · have e : (((0 : Nat) : Int) == 0) = true := rfl
      go_wp2_with fail
      go_ret3
      exact ⟨by rw [HP.out.1, HP.out.2.1, HP.out.2.2]; rfl, Below.refl _ _⟩
    · have e : ((K : Int) == 0) = false := by simp only [beq_eq_false_iff_ne]; omega
      have e1 : (1 : Int) < K := by omega
      have e2 : ((s[0].toNat : Int) == 48) = true := by rw [h2]; rfl
      go_wp2_with fail
      go_ret3
      exact ⟨by rw [HP.out.1, HP.out.2.1, HP.out.2.2]; rfl, Below.refl _ _⟩
  · have HB := Lib.hid hbad
    have hp : 0 < K := by omega
    have e : ((K : Int) == 0) = false := by simp only [beq_eq_false_iff_ne]; omega
    have hcase : (¬ (1 : Int) < K) ∨ ((1 : Int) < K ∧ ((s[0].toNat : Int) == 48) = false) := by
      by_cases h1 : 1 < K
      · refine .inr ⟨by omega, ?_⟩
        have h2 : ¬ s[0] = 48 := fun h2 => hbad (.inr ⟨h1, h2⟩)
        rw [beq_eq_false_iff_ne]
        intro e
        exact h2 (UInt8.toNat.inj (by rw [show (48 : UInt8).toNat = 48 from rfl]; omega))
      · exact .inl (by omega)
    clear hbad
    go_upto_region 4 with fail
    go_cut [22] (fun v wx => v = .bool false ∧ wx = w)
    case first =>
      rcases hcase with h1 | ⟨h1, h2⟩
      · go_wp2_with fail
        go_meet
        exact ⟨rfl, rfl⟩
      · go_wp2_with fail
        go_meet
        exact ⟨rfl, rfl⟩
    case rest =>
      obtain ⟨rfl, rfl⟩ := hcut
      clear e
      have hxs : (s.extract 0 K).size ≤ 140737488351232 := by rw [ByteArray.size_extract]; omega
      have hxl := extract_list s K
      have hat : Lib.atoiAll (s.extract 0 K).data.toList = if dval (s.data.toList.take K) ≤ 9223372036854775807 then .ok (dval (s.data.toList.take K) : Int) else .range := by
        rw [hxl]
        have ht := dgK_take s.data.toList
        rw [HK.out] at ht
        refine atoi_digits _ ht ?_
        intro e
        have := congrArg List.length e
        have e2 : s.data.toList.length = s.size := rfl
        rw [List.length_take, e2, List.length_nil] at this
        omega
      clear hxl
      by_cases hv : dval (s.data.toList.take K) ≤ 9223372036854775807
      · rw [if_pos hv] at hat
        have HP := Lib.hid (p_ok HNE.out (by rw [HK.out, HH.out]; simpa using HB.out) (by rw [HK.out]; exact hv))
        have HA := Lib.hid (atoi_ok _ _ wc hxs hat)
        clear hat hxs hv
        go_wp2_with fail
        refine HA.out.mono ?_
        rintro e w1 ⟨rfl, hb⟩
        go_wp2_with fail
        go_ret3
        exact ⟨by rw [HP.out.1, HP.out.2.1, HP.out.2.2, HK.out]; rfl, hb⟩
      · rw [if_neg hv] at hat
        have HP := Lib.hid (p_num HNE.out (by rw [HK.out, HH.out]; simpa using HB.out) (by rw [HK.out]; omega))
        have HA := Lib.hid (atoi_range _ wc hxs hat HER.out)
        clear hat hxs hv
        go_wp2_with fail
        refine HA.out.mono ?_
        rintro e w1 ⟨n, tp, p, rfl, hb⟩
        go_wp2_with fail
        go_ret3
        exact ⟨by rw [HP.out.1, HP.out.2.1, HP.out.2.2]; rfl, hb⟩

end Go.Proofs.YtcddbfdbhjkjgaaGreatDoor
