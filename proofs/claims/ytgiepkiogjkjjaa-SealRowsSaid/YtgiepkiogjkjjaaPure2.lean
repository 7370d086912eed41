/-
  Texts and rows: what was written is taken, and what is taken was written so: of plain lists of numbers alone.
-/
import Derived.Test.YtgiepkiogjkjjaaPure
import Derived.Test.YtgiepkiogjkjjaaEnc
import Derived.Test.YtgiepkiogjkjjaaList
namespace Go.Proofs.Ytgiepkiogjkjjaa

theorem take_add {l : List Int} (a b : Nat) : l.take (a + b) = l.take a ++ (l.drop a).take b := by
  rw [List.take_add]

theorem mem_drop {l : List Int} {n : Nat} (h : ∀ x ∈ l, 0 ≤ x ∧ x < 256) : ∀ x ∈ l.drop n, 0 ≤ x ∧ x < 256 := fun x hx => h x (List.mem_of_mem_drop hx)

theorem szF_ok {most i : Nat} {l : List Int} (h : (szF most i l).2.2 = 0) : szF most i l = tkF M63 true 0 i l ∧ (tkF M63 true 0 i l).2.2 = 0 := by
  unfold szF at h ⊢
  split at h
  · simp at h
  · rename_i h2
    exact ⟨by rw [if_neg h2], h⟩

theorem txF_form {bs : List Int} (hx : ∀ x ∈ bs, 0 ≤ x ∧ x < 256) (h : (txF 0 bs).2.2 = 0) :
    bs.take (txF 0 bs).2.1 = enc (txF 0 bs).1.length ++ (txF 0 bs).1 ∧ (txF 0 bs).1.length ≤ 65535 ∧ (txF 0 bs).2.1 ≤ bs.length := by
  unfold txF at h ⊢
  simp only [List.drop_zero] at h ⊢
  have ht := szF_told 65535 0 bs
  rcases ht with ⟨h1, h2, h3, h4⟩ | ⟨h1, _⟩
  · obtain ⟨e, h5⟩ := szF_ok h1
    rw [e] at h1 h2 h3 h4 h ⊢
    rw [if_neg (by simp [h1])] at h ⊢
    by_cases hs : bs.length - (tkF M63 true 0 0 bs).2.1 < (tkF M63 true 0 0 bs).1
    · rw [if_pos hs] at h; simp at h
    · rw [if_neg hs]
      have hf := take_form (most := M63) (i := 0) hx h5
      simp only [Nat.sub_zero, List.length_take, List.length_drop] at hf ⊢
      rw [take_add, hf, Nat.min_eq_left (by omega)]
      exact ⟨rfl, h4, by omega⟩
  · rw [if_pos (by omega)] at h; simp only at h; omega

theorem szF_back {most n i : Nat} (l : List Int) (h : n ≤ most) (hm : n ≤ M63) : szF most i (enc n ++ l) = (n, i + (enc n).length, 0) := by
  unfold szF
  rw [take_back l hm, if_neg (by simp; omega)]

theorem txF_back (xs l : List Int) (h : xs.length ≤ 65535) : txF 0 (enc xs.length ++ xs ++ l) = (xs, (enc xs.length ++ xs).length, 0) := by
  unfold txF
  rw [List.drop_zero, List.append_assoc, szF_back _ h (by unfold M63; omega)]
  simp only [Nat.zero_add]
  rw [if_neg (by simp), if_neg (by simp)]
  simp

theorem fo_unf (u : Nat) : fo (unf u) = u := by
  unfold fo unf
  split <;> split <;> omega

theorem unf_fo (n : Int) : unf (fo n) = n := by
  unfold fo unf
  split <;> split <;> omega

theorem unf_range (u : Nat) (h : u ≤ M64) : -9223372036854775808 ≤ unf u ∧ unf u ≤ 9223372036854775807 := by
  have e : M64 = 18446744073709551615 := rfl
  rw [e] at h
  unfold unf
  split <;> omega

theorem lsF_form {bs : List Int} (hx : ∀ x ∈ bs, 0 ≤ x ∧ x < 256) : ∀ (n i : Nat), i ≤ bs.length → (lsF bs n i).2.2 = 0 →
    (bs.drop i).take ((lsF bs n i).2.1 - i) = encs (lsF bs n i).1 ∧ ∀ x ∈ (lsF bs n i).1, -9223372036854775808 ≤ x ∧ x ≤ 9223372036854775807 := by
  intro n
  induction n with
  | zero => intro i _ _; simp [lsF, encs]
  | succ n ih =>
    intro i hi h
    have ht := tkF_told (most := M64) (bs.drop i) true 0 i
    have hf := fun h => take_form (most := M64) (i := i) (mem_drop (n := i) hx) h
    have hr := tkF_le (most := M64) (bs.drop i) true 0 i
    unfold lsF at h ⊢
    generalize tkF M64 true 0 i (bs.drop i) = r at *
    by_cases h0 : r.2.2 = 0
    · rw [if_neg (by simp [h0])] at h ⊢
      have h4 : i < r.2.1 ∧ r.2.1 ≤ bs.length := by
        rcases ht with ⟨_, h5, h6⟩ | ⟨h5, _⟩
        · simp at h6; omega
        · omega
      have hl := lsF_told bs n r.2.1 h4.2
      have hi2 := ih r.2.1 h4.2
      generalize lsF bs n r.2.1 = s at *
      by_cases h1 : s.2.2 = 0
      · rw [if_neg (by simp [h1])] at h ⊢
        obtain ⟨e1, e2⟩ := hi2 h1
        have h6 : r.2.1 ≤ s.2.1 := by rcases hl with h7 | h7 <;> omega
        simp only
        rw [show s.2.1 - i = (r.2.1 - i) + (s.2.1 - r.2.1) by omega, take_add, hf h0, List.drop_drop, show i + (r.2.1 - i) = r.2.1 by omega, e1]
        refine ⟨by simp [encs, fo_unf], ?_⟩
        intro x hx2
        simp only [List.mem_cons] at hx2
        rcases hx2 with rfl | hx2
        · exact unf_range _ hr
        · exact e2 x hx2
      · rw [if_pos h1] at h; simp only at h; omega
    · rw [if_pos h0] at h; simp only at h; omega

theorem liF_form {bs : List Int} (hx : ∀ x ∈ bs, 0 ≤ x ∧ x < 256) (h : (liF 0 bs).2.2 = 0) :
    bs.take (liF 0 bs).2.1 = enc (liF 0 bs).1.length ++ encs (liF 0 bs).1 ∧ (liF 0 bs).1.length ≤ 4096 ∧ (liF 0 bs).2.1 ≤ bs.length ∧
      ∀ x ∈ (liF 0 bs).1, -9223372036854775808 ≤ x ∧ x ≤ 9223372036854775807 := by
  unfold liF at h ⊢
  simp only [List.drop_zero] at h ⊢
  have ht := szF_told 4096 0 bs
  rcases ht with ⟨h1, h2, h3, h4⟩ | ⟨h1, _⟩
  · obtain ⟨e, h5⟩ := szF_ok h1
    rw [e] at h1 h2 h3 h4 h ⊢
    rw [if_neg (by simp [h1])] at h ⊢
    have hf := take_form (most := M63) (i := 0) hx h5
    have hl := lsF_told bs (tkF M63 true 0 0 bs).1 (tkF M63 true 0 0 bs).2.1 (by omega)
    obtain ⟨f1, f2⟩ := lsF_form hx (tkF M63 true 0 0 bs).1 (tkF M63 true 0 0 bs).2.1 (by omega) h
    rcases hl with ⟨_, g1, g2, g3⟩ | ⟨g1, _⟩
    · generalize lsF bs (tkF M63 true 0 0 bs).1 (tkF M63 true 0 0 bs).2.1 = s at *
      simp only [Nat.sub_zero] at hf
      refine ⟨?_, by omega, g3, f2⟩
      rw [show s.2.1 = (tkF M63 true 0 0 bs).2.1 + (s.2.1 - (tkF M63 true 0 0 bs).2.1) by omega, take_add, hf, f1, g1]
    · omega
  · rw [if_pos (by omega)] at h; simp only at h; omega

theorem lsF_back (l : List Int) : ∀ (ns : List Int) (p : List Int), (∀ x ∈ ns, -9223372036854775808 ≤ x ∧ x ≤ 9223372036854775807) →
    lsF (p ++ encs ns ++ l) ns.length p.length = (ns, (p ++ encs ns).length, 0) := by
  intro ns
  induction ns with
  | nil => intro p _; simp [lsF, encs]
  | cons n ns ih =>
    intro p hn
    have h1 := hn n (by simp)
    have hb := ih (p ++ enc (fo n)) (fun x hx => hn x (by simp [hx]))
    have hd : (p ++ encs (n :: ns) ++ l).drop p.length = enc (fo n) ++ (encs ns ++ l) := by
      simp [encs, List.append_assoc]
    have hw : p ++ encs (n :: ns) ++ l = p ++ enc (fo n) ++ encs ns ++ l := by simp [encs, List.append_assoc]
    have ht : tkF M64 true 0 p.length (enc (fo n) ++ (encs ns ++ l)) = (fo n, p.length + (enc (fo n)).length, 0) :=
      take_back _ (by have := fo_lt n h1.1 h1.2; have e : M64 = 18446744073709551615 := rfl; omega)
    rw [List.length_cons, lsF, hd, ht]
    simp only
    rw [if_neg (by simp), hw, show p.length + (enc (fo n)).length = (p ++ enc (fo n)).length by simp, hb, if_neg (by simp), unf_fo]
    refine Prod.ext rfl (Prod.ext ?_ rfl)
    simp [encs, List.append_assoc]

theorem liF_back (ns l : List Int) (h : ns.length ≤ 4096) (hn : ∀ x ∈ ns, -9223372036854775808 ≤ x ∧ x ≤ 9223372036854775807) :
    liF 0 (enc ns.length ++ encs ns ++ l) = (ns, (enc ns.length ++ encs ns).length, 0) := by
  unfold liF
  have e := szF_back (most := 4096) (i := 0) (encs ns ++ l) h (by unfold M63; omega)
  rw [← List.append_assoc] at e
  rw [List.drop_zero, e]
  simp only [Nat.zero_add]
  rw [if_neg (by simp)]
  exact lsF_back l ns (enc ns.length) hn

end Go.Proofs.Ytgiepkiogjkjjaa
