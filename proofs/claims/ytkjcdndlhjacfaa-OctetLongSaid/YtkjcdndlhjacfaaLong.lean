import Derived.Test.YtkjcdndlhjacfaaUint
import Derived.Test.YtkjcdndlhjacfaaOpen
namespace Go.Proofs.Ytkjcdndlhjacfaa
open Go.RowKit

theorem str_inj : ∀ (xs ys : List Int), (∀ x ∈ xs, 0 ≤ x ∧ x < 256) → (∀ x ∈ ys, 0 ≤ x ∧ x < 256) →
    xs.map (fun n => UInt8.ofNat n.toNat) = ys.map (fun n => UInt8.ofNat n.toNat) → xs = ys := by
  intro xs
  induction xs with
  | nil => intro ys _ _ h; cases ys with
    | nil => rfl
    | cons y ys => simp at h
  | cons x xs ih =>
    intro ys hx hy h
    cases ys with
    | nil => simp at h
    | cons y ys =>
      simp only [List.map_cons, List.cons.injEq] at h
      have h1 := hx x (by simp)
      have h2 := hy y (by simp)
      have e : (UInt8.ofNat x.toNat).toNat = (UInt8.ofNat y.toNat).toNat := by rw [h.1]
      simp only [UInt8.toNat_ofNat'] at e
      rw [ih ys (fun z hz => hx z (by simp [hz])) (fun z hz => hy z (by simp [hz])) h.2]
      congr 1
      omega

theorem str_eq (xs ys : List Int) (hx : ∀ x ∈ xs, 0 ≤ x ∧ x < 256) (hy : ∀ x ∈ ys, 0 ≤ x ∧ x < 256) :
    ((strOfNums xs).toList == (strOfNums ys).toList) = decide (xs = ys) := by
  rw [ByteArray.toList_eq, ByteArray.toList_eq, strOfNums_data, strOfNums_data, Bool.eq_iff_iff, beq_iff_eq, decide_eq_true_iff]
  exact ⟨str_inj xs ys hx hy, fun h => by rw [h]⟩

theorem long_neg2 (n m : Int) (w : World) (h1 : n < 0) (h2 : m < 0) :
    Calls Try.prog 9 #[.int .i64 n, .int .i64 m] w fun e w' => e = .returned (.bool true) ∧ Below w.heap.size w w' := by
  go_enter Try.func9, Try.ntmps9
  go_wp2_with fail
  refine (uint_neg n _ h1).mono ?_
  rintro e w1 ⟨rfl, rfl⟩
  go_wp2_with fail
  refine (uint_neg m _ h2).mono ?_
  rintro e w1 ⟨rfl, rfl⟩
  go_wp2_with fail
  go_ret
  exact ⟨rfl, Below.refl _ _⟩

theorem long_neg1 (n : Int) (m : Nat) (w : World) (h1 : n < 0) (hm : m < 2 ^ 63) :
    Calls Try.prog 9 #[.int .i64 n, .int .i64 (m : Int)] w fun e w' => e = .returned (.bool true) ∧ Below w.heap.size w w' := by
  have HM := Lib.hid hm
  clear hm
  have h2 : ¬ (m : Int) < 0 := by omega
  go_enter Try.func9, Try.ntmps9
  go_wp2_with fail
  refine (uint_neg n _ h1).mono ?_
  rintro e w1 ⟨rfl, rfl⟩
  go_wp2_with fail
  refine (uint_pos m _ HM.out).mono ?_
  rintro e w2 ⟨g2, c2, rfl, own2, b2⟩
  go_wp2_with fail
  go_ret
  exact ⟨rfl, b2⟩

theorem long_neg0 (n : Nat) (m : Int) (w : World) (hn : n < 2 ^ 63) (h2 : m < 0) :
    Calls Try.prog 9 #[.int .i64 (n : Int), .int .i64 m] w fun e w' => e = .returned (.bool true) ∧ Below w.heap.size w w' := by
  have HM := Lib.hid hn
  clear hn
  have h1 : ¬ (n : Int) < 0 := by omega
  go_enter Try.func9, Try.ntmps9
  go_wp2_with fail
  refine (uint_pos n _ HM.out).mono ?_
  rintro e w2 ⟨g2, c2, rfl, own2, b2⟩
  go_wp2_with fail
  refine (uint_neg m _ h2).mono ?_
  rintro e w1 ⟨rfl, rfl⟩
  go_wp2_with fail
  go_ret
  exact ⟨rfl, b2⟩

set_option maxRecDepth 20000 in
theorem long_pos (n m : Nat) (w : World) (hn : n < 2 ^ 63) (hm : m < 2 ^ 63) :
    Calls Try.prog 9 #[.int .i64 (n : Int), .int .i64 (m : Int)] w fun e w' => e = .returned (.bool true) ∧ Below w.heap.size w w' := by
  have HN := Lib.hid hn
  have HM := Lib.hid hm
  clear hn hm
  have h1 : ¬ (n : Int) < 0 := by omega
  have h2 : ¬ (m : Int) < 0 := by omega
  go_enter Try.func9, Try.ntmps9
  go_wp2_with fail
  refine (uint_pos n _ HN.out).mono ?_
  rintro e w1 ⟨g1, c1, rfl, own1, b1⟩
  go_wp2_with fail
  refine (uint_pos m _ HM.out).mono ?_
  rintro e w2 ⟨g2, c2, rfl, own2, b2⟩
  have s1 := ownsRow_string (ownsRow_below own1 b2 (fun k h => (own1.lt k h).2))
  have s2 := ownsRow_string own2
  have p1 := enc_length_pos n
  have p2 := enc_length_pos m
  have hs := str_eq (enc n) (enc m) (enc_range n) (enc_range m)
  have BB := Lib.hid (b1.trans (b2.mono b1.size))
  clear own1 own2 b1 b2
  rcases Nat.lt_trichotomy n m with hl | hl | hl
  · have hle := enc_mono n m (by omega)
    have hne : ((n : Int) == (m : Int)) = false := by rw [beq_eq_false_iff_ne]; omega
    rw [decide_eq_false (fun h => by have := enc_inj h; omega)] at hs
    go_wp2_with fail
    go_ret
    exact ⟨rfl, BB.out⟩
  · subst hl
    have he : ((n : Int) == (n : Int)) = true := by simp
    go_wp2_with fail
    go_ret
    exact ⟨by simp, BB.out⟩
  · have hle := enc_mono m n (by omega)
    have hne : ((n : Int) == (m : Int)) = false := by rw [beq_eq_false_iff_ne]; omega
    rw [decide_eq_false (fun h => by have := enc_inj h; omega)] at hs
    go_wp2_with fail
    go_ret
    exact ⟨rfl, BB.out⟩

theorem long_walk (n m : Int) (w : World) (h1 : (Lit.int .i64 n).wf = true) (h2 : (Lit.int .i64 m).wf = true) :
    Calls Try.prog 9 #[.int .i64 n, .int .i64 m] w fun e w' => e = .returned (.bool true) ∧ Below w.heap.size w w' := by
  have r1 := int_range h1
  have r2 := int_range h2
  by_cases c1 : n < 0
  · by_cases c2 : m < 0
    · exact long_neg2 n m w c1 c2
    · obtain ⟨m, rfl⟩ := Int.eq_ofNat_of_zero_le (by omega : 0 ≤ m)
      exact long_neg1 n m w c1 (by omega)
  · obtain ⟨n, rfl⟩ := Int.eq_ofNat_of_zero_le (by omega : 0 ≤ n)
    by_cases c2 : m < 0
    · exact long_neg0 n m w (by omega) c2
    · obtain ⟨m, rfl⟩ := Int.eq_ofNat_of_zero_le (by omega : 0 ≤ m)
      exact long_pos n m w (by omega) (by omega)

end Go.Proofs.Ytkjcdndlhjacfaa
