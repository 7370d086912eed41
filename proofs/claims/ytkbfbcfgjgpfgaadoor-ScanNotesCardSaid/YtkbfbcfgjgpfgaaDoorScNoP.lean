/-
  A note up to a line's end changes no token.
-/
import Derived.Test.YtkbfbcfgjgpfgaaDoorScNP
namespace Go.Proofs.YtkbfbcfgjgpfgaaDoor

theorem blK_app : ∀ (b : Bool) (l t : List UInt8), (blK b l = l.length → blK b (l ++ 10 :: t) = l.length + (blK false t + 1)) ∧ (blK b l < l.length → blK b (l ++ 10 :: t) = blK b l)
  | true, [], t => ⟨fun _ => by simp [blK], fun h => by simp at h⟩
  | false, [], t => ⟨fun _ => by simp [blK, isBl], fun h => by simp at h⟩
  | true, c :: r, t => by
    have h1 := blK_app true r t
    have h2 := blK_app false r t
    by_cases hc : c = 10
    · have e1 : blK true (c :: r) = blK false r + 1 := by simp only [blK, if_pos hc]
      have e2 : blK true (c :: r ++ 10 :: t) = blK false (r ++ 10 :: t) + 1 := by simp only [List.cons_append, blK, if_pos hc]
      rw [e1, e2, List.length_cons]
      exact ⟨fun h => by rw [h2.1 (by omega)]; omega, fun h => by rw [h2.2 (by omega)]⟩
    · have e1 : blK true (c :: r) = blK true r + 1 := by simp only [blK, if_neg hc]
      have e2 : blK true (c :: r ++ 10 :: t) = blK true (r ++ 10 :: t) + 1 := by simp only [List.cons_append, blK, if_neg hc]
      rw [e1, e2, List.length_cons]
      exact ⟨fun h => by rw [h1.1 (by omega)]; omega, fun h => by rw [h1.2 (by omega)]⟩
  | false, c :: r, t => by
    have h1 := blK_app true r t
    have h2 := blK_app false r t
    have hh : (c = 47 ∧ (r ++ 10 :: t).head? = some 47) ↔ (c = 47 ∧ r.head? = some 47) := by
      cases r with
      | nil => simp
      | cons d r => simp
    by_cases hc : c = 47 ∧ r.head? = some 47
    · have e1 : blK false (c :: r) = blK true r + 1 := by simp only [blK, if_pos hc]
      have e2 : blK false (c :: r ++ 10 :: t) = blK true (r ++ 10 :: t) + 1 := by simp only [List.cons_append, blK, if_pos (hh.2 hc)]
      rw [e1, e2, List.length_cons]
      exact ⟨fun h => by rw [h1.1 (by omega)]; omega, fun h => by rw [h1.2 (by omega)]⟩
    · have hc' : ¬ (c = 47 ∧ (r ++ 10 :: t).head? = some 47) := fun h => hc (hh.1 h)
      by_cases hb : isBl c = true
      · have e1 : blK false (c :: r) = blK false r + 1 := by simp only [blK, if_neg hc, if_pos hb]
        have e2 : blK false (c :: r ++ 10 :: t) = blK false (r ++ 10 :: t) + 1 := by simp only [List.cons_append, blK, if_neg hc', if_pos hb]
        rw [e1, e2, List.length_cons]
        exact ⟨fun h => by rw [h2.1 (by omega)]; omega, fun h => by rw [h2.2 (by omega)]⟩
      · have e1 : blK false (c :: r) = 0 := by simp only [blK, if_neg hc, if_neg hb]
        have e2 : blK false (c :: r ++ 10 :: t) = 0 := by simp only [List.cons_append, blK, if_neg hc', if_neg hb]
        rw [e1, e2, List.length_cons]
        exact ⟨fun h => by omega, fun _ => rfl⟩

theorem blK_line : ∀ l : List UInt8, (∀ c ∈ l, c ≠ 10) → blK true l = l.length
  | [], _ => rfl
  | c :: r, h => by
    have e1 : blK true (c :: r) = blK true r + 1 := by simp only [blK, if_neg (h c (by simp))]
    rw [e1, blK_line r (fun x hx => h x (by simp [hx]))]
    rfl

theorem blK_whole {l : List UInt8} (h : ∀ c ∈ l, c ≠ 10) : blK false (47 :: 47 :: l) = l.length + 2 := by
  have e1 : blK false (47 :: 47 :: l) = blK true (47 :: l) + 1 := by simp [blK]
  rw [e1, blK_line (47 :: l) (fun x hx => by
    rcases List.mem_cons.1 hx with rfl | hx
    · decide
    · exact h x hx)]
  rfl

theorem wdK_app : ∀ (m t : List UInt8), wdK (m ++ 10 :: t) = wdK m
  | [], t => by simp [wdK, isWd, isLt, isDg]
  | c :: r, t => by
    have ih := wdK_app r t
    rw [List.cons_append]
    unfold wdK
    rw [ih]

theorem dgK_app : ∀ (m t : List UInt8), dgK (m ++ 10 :: t) = dgK m
  | [], t => by simp [dgK, isDg]
  | c :: r, t => by
    have ih := dgK_app r t
    rw [List.cons_append]
    unfold dgK
    rw [ih]

theorem pE_app {m : List UInt8} (h : m ≠ []) (t : List UInt8) : pE (m ++ 10 :: t) = pE m ∧ pV (m ++ 10 :: t) = pV m := by
  have e1 : (m ++ 10 :: t).take (dgK m) = m.take (dgK m) := List.take_append_of_le_length (dgK_le m)
  have e2 : (m ++ 10 :: t).head? = m.head? := head_app m _ h
  have e3 : pE (m ++ 10 :: t) = pE m := by
    unfold pE
    rw [dgK_app, e1, e2]
    simp [h]
  refine ⟨e3, ?_⟩
  unfold pV
  rw [e3, dgK_app, e1]

theorem sgn_app {m : List UInt8} (h : m ≠ []) (t : List UInt8) : sgn (m ++ 10 :: t) = sgn m := by
  match m, h with
  | [a], _ =>
    unfold sgn
    have e1 : twoS.contains (([a] ++ 10 :: t).take 2) = false := by
      cases e : twoS.contains (([a] ++ 10 :: t).take 2) with
      | false => rfl
      | true =>
        have : [a, 10] ∈ twoS := by simpa using e
        simp [twoS] at this
    have e2 : twoS.contains ([a].take 2) = false := by
      cases e : twoS.contains ([a].take 2) with
      | false => rfl
      | true =>
        have : [a] ∈ twoS := by simpa using e
        simp [twoS] at this
    rw [if_neg (by rw [e1]; decide), if_neg (by rw [e2]; decide)]
    rfl
  | a :: b :: r, _ => rfl

theorem tk_app {m : List UInt8} (h : m ≠ []) (t : List UInt8) (q : Int) : tkE (m ++ 10 :: t) = tkE m ∧ tkS (m ++ 10 :: t) = tkS m ∧ tkT (m ++ 10 :: t) q = tkT m q := by
  match m, h with
  | c :: r, h =>
    have a1 := wdK_app (c :: r) t
    have a2 := dgK_app (c :: r) t
    have a3 := pE_app h t
    have a4 := sgn_app h t
    have b1 : (c :: r ++ 10 :: t).take (wdK (c :: r)) = (c :: r).take (wdK (c :: r)) := List.take_append_of_le_length (wdK_le _)
    have b2 : (c :: r ++ 10 :: t).take (sgn (c :: r)) = (c :: r).take (sgn (c :: r)) := List.take_append_of_le_length (sgn_le _)
    rw [List.cons_append] at a1 a2 a3 a4 b1 b2 ⊢
    refine ⟨?_, ?_, ?_⟩
    · rw [tkE_cons, tkE_cons, a1, a2, a3.1, a4]
    · rw [tkS_cons, tkS_cons, a1, a2, a4]
    · rw [tkT_cons, tkT_cons, a1, a4, b1, b2, a3.2]

theorem scA_note (line : List UInt8) (hline : ∀ c ∈ line, c ≠ 10) : ∀ (f f' p : Nat) (acc : List Tk) (l : List UInt8), l.length < f → l.length + (line.length + 3) < f' →
    ((scA f p acc l).2.1 ≠ 0 ∧ scA f' p acc (l ++ 10 :: 47 :: 47 :: line) = scA f p acc l) ∨
    ∃ Y : List Tk, scA f p acc l = (Y ++ [⟨5, [], 0, ((p + l.length : Nat) : Int)⟩], 0, 0) ∧ scA f' p acc (l ++ 10 :: 47 :: 47 :: line) = (Y ++ [⟨5, [], 0, ((p + l.length + (line.length + 3) : Nat) : Int)⟩], 0, 0)
  | 0, _, _, _, _, h, _ => by omega
  | _, 0, _, _, _, _, h => by omega
  | f + 1, f' + 1, p, acc, l, h, h' => by
    have hb := blK_le false l
    by_cases hm : l.drop (blK false l) = []
    · right
      have hbl : blK false l = l.length := by
        have := congrArg List.length hm
        rw [List.length_drop, List.length_nil] at this
        omega
      have hb2 : blK false (l ++ 10 :: 47 :: 47 :: line) = l.length + (line.length + 3) := by
        rw [(blK_app false l _).1 hbl, blK_whole hline]
      refine ⟨acc, ?_, ?_⟩
      · rw [scA_end hm, hbl]
      · rw [scA_end (by rw [hb2]; exact List.drop_of_length_le (by simp)), hb2, Nat.add_assoc]
    · have hbl : blK false l < l.length := by
        rcases Nat.lt_or_ge (blK false l) l.length with h1 | h1
        · exact h1
        · exact absurd (List.drop_of_length_le h1) hm
      have hb2 := (blK_app false l (47 :: 47 :: line)).2 hbl
      obtain ⟨m, hmm⟩ : ∃ m, l.drop (blK false l) = m := ⟨_, rfl⟩
      have hd2 : (l ++ 10 :: 47 :: 47 :: line).drop (blK false (l ++ 10 :: 47 :: 47 :: line)) = m ++ 10 :: 47 :: 47 :: line := by
        rw [hb2, List.drop_append_of_le_length hb, hmm]
      rw [hmm] at hm
      obtain ⟨k1, k2, k3⟩ := tk_app hm (47 :: 47 :: line) ((p + blK false l : Nat) : Int)
      by_cases he : tkE m = 0
      · have hs := tkS_le m
        have hp := tkS_pos2 hm he
        have hml : m.length = l.length - blK false l := by rw [← hmm, List.length_drop]
        have hd3 : (m ++ 10 :: 47 :: 47 :: line).drop (tkS m) = m.drop (tkS m) ++ 10 :: 47 :: 47 :: line := List.drop_append_of_le_length hs
        rw [scA_step hmm hm he, scA_step hd2 (by simp) (by rw [k1]; exact he), hb2, k2, k3, hd3]
        have ih := scA_note line hline f f' (p + blK false l + tkS m) (acc ++ [tkT m ((p + blK false l : Nat) : Int)]) (m.drop (tkS m)) (by rw [List.length_drop]; omega) (by rw [List.length_drop]; omega)
        have e1 : p + blK false l + tkS m + (m.drop (tkS m)).length = p + l.length := by rw [List.length_drop]; omega
        rw [e1] at ih
        exact ih
      · left
        rw [scA_bad hmm hm he, scA_bad hd2 (by simp) (by rw [k1]; exact he), hb2, k1]
        exact ⟨he, rfl⟩

/-- The tokens of a source, and with a note behind it. -/
theorem scF_note (l line : List UInt8) (hline : ∀ c ∈ line, c ≠ 10) (hl : l.length + (line.length + 3) ≤ 16384) :
    ((scF l).2.1 ≠ 0 ∧ scF (l ++ 10 :: 47 :: 47 :: line) = scF l) ∨
    ∃ Y : List Tk, scF l = (Y ++ [⟨5, [], 0, (l.length : Int)⟩], 0, 0) ∧ scF (l ++ 10 :: 47 :: 47 :: line) = (Y ++ [⟨5, [], 0, ((l.length + (line.length + 3) : Nat) : Int)⟩], 0, 0) := by
  unfold scF
  rw [if_neg (by omega), if_neg (by simp; omega)]
  have h := scA_note line hline (l.length + 1) ((l ++ 10 :: 47 :: 47 :: line).length + 1) 0 [] l (by omega) (by simp)
  rw [Nat.zero_add] at h
  exact h

end Go.Proofs.YtkbfbcfgjgpfgaaDoor
