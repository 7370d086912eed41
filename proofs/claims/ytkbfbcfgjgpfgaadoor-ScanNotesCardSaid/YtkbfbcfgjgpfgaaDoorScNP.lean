/-
  A name is one token; its letters with one more.
-/
import Derived.Test.YtkbfbcfgjgpfgaaDoorScRTok
import Derived.Test.YtkbfbcfgjgpfgaaDoorScK
namespace Go.Proofs.YtkbfbcfgjgpfgaaDoor

theorem isWd_all {l : List UInt8} (h : wdK l = l.length) : ∀ c ∈ l, isWd c = true := by
  induction l with
  | nil => simp
  | cons c r ih =>
    unfold wdK at h
    split at h
    · rename_i hc
      intro x hx
      rcases List.mem_cons.1 hx with rfl | hx
      · exact hc
      · exact ih (by simpa using h) x hx
    · simp at h

theorem wdK_all {l : List UInt8} (h : ∀ c ∈ l, isWd c = true) : wdK l = l.length := by
  induction l with
  | nil => rfl
  | cons c r ih =>
    unfold wdK
    rw [if_pos (h c (by simp)), ih (fun x hx => h x (by simp [hx]))]
    rfl

theorem lt_not_bl {c : UInt8} (h : isLt c = true) : c ≠ 47 ∧ isBl c = false := by
  have h1 := isLt_iff.1 h
  constructor
  · rintro rfl
    exact absurd h (by decide)
  · cases e : isBl c with
    | false => rfl
    | true =>
      simp only [isBl, Bool.or_eq_true, decide_eq_true_eq] at e
      rcases e with ((rfl | rfl) | rfl) | rfl <;> exact absurd h (by decide)

theorem blK_lt {c : UInt8} {r : List UInt8} (h : isLt c = true) : blK false (c :: r) = 0 := by
  have := lt_not_bl h
  rw [show blK false (c :: r) = if c = 47 ∧ r.head? = some 47 then blK true r + 1 else if isBl c = true then blK false r + 1 else 0 from rfl, if_neg (fun e => this.1 e.1), if_neg (by rw [this.2]; decide)]

/-- What is found stands ahead of what comes. -/
theorem scA_pre : ∀ (f p : Nat) (acc : List Tk) (l : List UInt8), l.length < f → (scA f p acc l).2.1 = 0 → ∃ rest, (scA f p acc l).1 = acc ++ rest
  | 0, _, _, _, h, _ => by omega
  | f + 1, p, acc, l, h, h0 => by
    by_cases hm : l.drop (blK false l) = []
    · rw [scA_end hm]
      exact ⟨_, rfl⟩
    · by_cases he : tkE (l.drop (blK false l)) = 0
      · rw [scA_step rfl hm he] at h0 ⊢
        have hp := tkS_pos2 hm he
        have hs := tkS_le (l.drop (blK false l))
        rw [List.length_drop] at hs
        obtain ⟨rest, hr⟩ := scA_pre f _ _ _ (by rw [List.length_drop, List.length_drop]; omega) h0
        exact ⟨_, by rw [hr, List.append_assoc]⟩
      · rw [scA_bad rfl hm he] at h0
        exact absurd h0 he

theorem isNm_parts {l : List UInt8} (h : isNm l = true) : ∃ c r, l = c :: r ∧ isLt c = true ∧ wdK l = l.length ∧ l.length ≤ 24 ∧ isKw l = false := by
  simp only [isNm, Bool.and_eq_true, Bool.not_eq_true', decide_eq_true_eq] at h
  obtain ⟨⟨⟨h0, h1⟩, h2⟩, h3⟩ := h
  match l, h0, h1, h2, h3 with
  | c :: r, _, h1, h2, h3 =>
    rw [wsz_cons] at h2
    split at h2
    · rename_i hc
      exact ⟨c, r, rfl, hc, h2, h1, h3⟩
    · simp at h2

theorem isNm_of {c : UInt8} {r : List UInt8} (hc : isLt c = true) (h1 : wdK (c :: r) = (c :: r).length) (h2 : (c :: r).length ≤ 24) (h3 : isKw (c :: r) = false) : isNm (c :: r) = true := by
  simp only [isNm, Bool.and_eq_true, Bool.not_eq_true', decide_eq_true_eq]
  exact ⟨⟨⟨rfl, h2⟩, by rw [wsz_cons, if_pos hc]; exact h1⟩, h3⟩

theorem named_yes {l : List UInt8} (h : isNm l = true) : scF l = ([⟨1, l, 0, 0⟩, ⟨5, [], 0, (l.length : Int)⟩], 0, 0) := by
  obtain ⟨c, r, rfl, hc, h1, h2, h3⟩ := isNm_parts h
  have hb := blK_lt (r := r) hc
  have hE : tkE (c :: r) = 0 := by rw [tkE_cons, if_pos hc, if_neg (by omega)]
  have hS : tkS (c :: r) = (c :: r).length := by rw [tkS_cons, if_pos hc, h1]
  have hT : tkT (c :: r) ((0 + 0 : Nat) : Int) = ⟨1, c :: r, 0, 0⟩ := by
    rw [tkT_cons, if_pos hc, h1, List.take_of_length_le (Nat.le_refl _), h3]
    rfl
  unfold scF
  rw [if_neg (by omega), scA_step (m := c :: r) (by rw [hb]; rfl) (by simp) hE, hb, hT, hS, List.drop_of_length_le (Nat.le_refl _)]
  have : (c :: r).length = r.length + 1 := rfl
  rw [this, scA_end rfl]
  simp [blK]

theorem named_no {l : List UInt8} (hl : l.length ≤ 16384) (h : isNm l = false) : ¬ ((scF l).2.1 = 0 ∧ ∃ t u, (scF l).1 = [t, u] ∧ t.kind = 1 ∧ t.text = l) := by
  rintro ⟨h0, t, u, hX, hk, ht⟩
  unfold scF at h0 hX
  rw [if_neg (by omega)] at h0 hX
  by_cases hm : l.drop (blK false l) = []
  · rw [scA_end hm] at hX
    simp at hX
  · by_cases he : tkE (l.drop (blK false l)) = 0
    · rw [scA_step rfl hm he] at h0 hX
      have hp := tkS_pos2 hm he
      have hs := tkS_le (l.drop (blK false l))
      rw [List.length_drop] at hs
      obtain ⟨rest, hr⟩ := scA_pre _ _ _ _ (by rw [List.length_drop, List.length_drop]; omega) h0
      rw [hr] at hX
      simp only [List.nil_append, List.singleton_append, List.cons.injEq] at hX
      obtain ⟨rfl, _⟩ := hX
      generalize hd : l.drop (blK false l) = m at *
      match m, hm with
      | c :: r, _ =>
        rw [tkT_cons] at hk ht
        by_cases hc : isLt c = true
        · rw [if_pos hc] at hk ht
          simp only at hk ht
          have hlen := congrArg List.length hd
          rw [List.length_drop] at hlen
          have htl := congrArg List.length ht
          rw [List.length_take] at htl
          have hk0 : blK false l = 0 := by
            have : 0 < (c :: r).length := by simp
            omega
          rw [hk0, List.drop_zero] at hd
          subst hd
          have hw := wdK_le (c :: r)
          have h1 : wdK (c :: r) = (c :: r).length := by omega
          have h2 : (c :: r).length ≤ 24 := by
            rw [tkE_cons, if_pos hc] at he
            split at he
            · cases he
            · omega
          rw [h1, List.take_of_length_le (Nat.le_refl _)] at hk
          have h3 : isKw (c :: r) = false := by
            cases e : isKw (c :: r) with
            | false => rfl
            | true => rw [e] at hk; cases hk
          rw [isNm_of hc h1 h2 h3] at h
          cases h
        · rw [if_neg hc] at hk
          split at hk <;> cases hk
    · rw [scA_bad rfl hm he] at h0
      exact he h0

theorem kw_last : ∀ k ∈ kws, k.getLast? ≠ some 95 := by decide

theorem named_more {l : List UInt8} (h : isNm l = true) : isNm (l ++ [95]) = decide (l.length < 24) := by
  obtain ⟨c, r, rfl, hc, h1, h2, h3⟩ := isNm_parts h
  have ha := isWd_all h1
  have h4 : wdK (c :: r ++ [95]) = (c :: r ++ [95]).length := wdK_all fun x hx => by
    rcases List.mem_append.1 hx with hx | hx
    · exact ha x hx
    · rw [List.mem_singleton.1 hx]; decide
  have h5 : isKw (c :: r ++ [95]) = false := by
    cases e : isKw (c :: r ++ [95]) with
    | false => rfl
    | true =>
      have hm : c :: r ++ [95] ∈ kws := by simpa [isKw] using e
      exact absurd List.getLast?_concat (kw_last _ hm)
  by_cases hl : (c :: r).length < 24
  · rw [decide_eq_true hl]
    rw [List.cons_append] at h4 h5 ⊢
    exact isNm_of hc h4 (by simp at hl ⊢; omega) h5
  · rw [decide_eq_false hl]
    cases e : isNm (c :: r ++ [95]) with
    | false => rfl
    | true =>
      obtain ⟨_, _, _, _, _, h6, _⟩ := isNm_parts e
      simp at h6 hl
      omega

end Go.Proofs.YtkbfbcfgjgpfgaaDoor
