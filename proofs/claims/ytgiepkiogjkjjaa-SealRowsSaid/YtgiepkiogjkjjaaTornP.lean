/-
  Frames one behind the other, whole or cut off, in plain lists; rows that are owned, and their strings.
-/
import Derived.Test.YtgiepkiogjkjjaaOpenR
import Derived.Test.YtgiepkiogjkjjaaRowsT
namespace Go.Proofs.Ytgiepkiogjkjjaa
open Go.RowKit

def frames (Ls : List (List Int)) : List Int := Ls.flatMap frame

theorem frames_snoc (Ls : List (List Int)) (p : List Int) : frames (Ls ++ [p]) = frames Ls ++ frame p := by simp [frames]
theorem frames_cons (Ls : List (List Int)) (p : List Int) : frames (p :: Ls) = frame p ++ frames Ls := by simp [frames]
theorem frames_append (Ls Ks : List (List Int)) : frames (Ls ++ Ks) = frames Ls ++ frames Ks := by simp [frames]

theorem frames_range {Ls : List (List Int)} (h : ∀ p ∈ Ls, InB p) : InB (frames Ls) := by
  intro x hx
  simp only [frames, List.mem_flatMap] at hx
  obtain ⟨p, hp, hx⟩ := hx
  exact frame_range (h p hp) x hx

theorem frame_ne (p : List Int) : frame p ≠ [] := by
  intro e
  have := frame_min p
  rw [e] at this; simp at this

/-- Rows of whole frames, and what follows. -/
theorem rw_frames : ∀ (Ls : List (List Int)) (rest : List Int), (∀ p ∈ Ls, InB p ∧ p.length ≤ 1048576) → InB rest → rw' (frames Ls ++ rest) = onR Ls (frames Ls).length (rw' rest) := by
  intro Ls
  induction Ls with
  | nil => intro rest _ _; simp [frames, onR]
  | cons p Ls ih =>
    intro rest h hr
    have hp := h p (by simp)
    have hi := ih rest (fun q hq => h q (by simp [hq])) hr
    have hb := opF_back p (frames Ls ++ rest) hp.2
    have hin : InB (frames (p :: Ls) ++ rest) := by
      intro x hx
      rcases List.mem_append.1 hx with hx | hx
      · exact frames_range (fun q hq => (h q hq).1) x hx
      · exact hr x hx
    have hne : frames (p :: Ls) ++ rest ≠ [] := by
      rw [frames_cons]
      intro e
      have := frame_ne p
      simp at e
      exact this e.1
    have he : frames (p :: Ls) ++ rest = frame p ++ (frames Ls ++ rest) := by rw [frames_cons, List.append_assoc]
    rw [he] at hin hne ⊢
    rw [rw_good hin hne (by rw [hb]), hb]
    simp only [List.drop_left]
    rw [hi, frames_cons]
    simp [onR, Nat.add_assoc]

/-- A frame that is cut off is none. -/
theorem opF_cut {p rest : List Int} (hp : InB p) (hl : p.length ≤ 1048576) (hr : ∃ more, frame p = rest ++ more ∧ more ≠ []) : (opF rest).2.2 ≠ 0 := by
  intro h
  obtain ⟨more, he, hm⟩ := hr
  have hrin : InB rest := fun x hx => frame_range hp x (by rw [he]; exact List.mem_append.2 (.inl hx))
  obtain ⟨h1, h2, h3, h4⟩ := opF_form hrin h
  have hb := opF_back p [] hl
  rw [List.append_nil, he] at hb
  have hsp : rest ++ more = frame (opF rest).1 ++ (rest.drop (opF rest).2.1 ++ more) := by
    rw [← List.append_assoc, ← h1, List.take_append_drop]
  rw [hsp, opF_back (opF rest).1 _ h2] at hb
  have e := congrArg (fun t => t.2.1) hb
  simp only [List.length_append, List.length_drop] at e
  have hml : 0 < more.length := List.length_pos_iff.2 hm
  omega

/-- What Rows tells of frames that are cut off. -/
theorem rw_torn (Ls : List (List Int)) (q c : Nat) (h : ∀ p ∈ Ls, InB p ∧ p.length ≤ 1048576) (h1 : (frames (Ls.take q)).length ≤ c) (h2 : c ≤ (frames Ls).length)
    (h3 : q < Ls.length → c < (frames (Ls.take (q + 1))).length) :
    (rw' ((frames Ls).take c)).1 = Ls.take q ∧ (rw' ((frames Ls).take c)).2.1 = (frames (Ls.take q)).length ∧ ((rw' ((frames Ls).take c)).2.2 = 0 ↔ (frames (Ls.take q)).length = c) := by
  obtain ⟨rest, hrest⟩ : ∃ rest, rest = (frames (Ls.drop q)).take (c - (frames (Ls.take q)).length) := ⟨_, rfl⟩
  have hspl : (frames Ls).take c = frames (Ls.take q) ++ rest := by
    conv => lhs; rw [← List.take_append_drop q Ls, frames_append]
    rw [List.take_append, List.take_of_length_le h1, hrest]
  have hps : ∀ p ∈ Ls.take q, InB p ∧ p.length ≤ 1048576 := fun p hp => h p (List.mem_of_mem_take hp)
  have hrin : InB rest := by
    intro x hx
    rw [hrest] at hx
    exact frames_range (fun p hp => (h p (List.mem_of_mem_drop hp)).1) x (List.mem_of_mem_take hx)
  rw [hspl, rw_frames _ _ hps hrin]
  by_cases hc : (frames (Ls.take q)).length = c
  · have : rest = [] := by rw [hrest, hc, Nat.sub_self, List.take_zero]
    rw [this, rw_nil]
    simp [onR, hc]
  · have hql : q < Ls.length := by
      rcases Nat.lt_or_ge q Ls.length with hql | hql
      · exact hql
      · rw [List.take_of_length_le hql] at h1 hc
        omega
    have hcl := h3 hql
    have hg : Ls.drop q = Ls[q] :: Ls.drop (q + 1) := List.drop_eq_getElem_cons hql
    have htk : Ls.take (q + 1) = Ls.take q ++ [Ls[q]] := List.take_succ_eq_append_getElem hql
    rw [htk, frames_snoc, List.length_append] at hcl
    have hr2 : rest = (frame Ls[q]).take (c - (frames (Ls.take q)).length) := by
      rw [hrest, hg, frames_cons, List.take_append_of_le_length (by omega)]
    have hne : rest ≠ [] := by
      intro e
      have := congrArg List.length (hr2.symm.trans e)
      have := frame_min Ls[q]
      simp only [List.length_take, List.length_nil] at *
      omega
    have hbad := opF_cut (rest := rest) (h Ls[q] (List.getElem_mem hql)).1 (h Ls[q] (List.getElem_mem hql)).2 ⟨(frame Ls[q]).drop (c - (frames (Ls.take q)).length), by rw [hr2, List.take_append_drop], by
      intro e
      have := congrArg List.length e
      simp at this; omega⟩
    rw [rw_bad hne hbad]
    simp only [onR, List.append_nil, Nat.add_zero]
    exact ⟨trivial, trivial, ⟨fun e => absurd e hbad, fun e => absurd e hc⟩⟩

/-- An owned row's shape. -/
theorem own_form {w : World} {B : Nat} {e : TypeId} {v : Value} {n : Nat} {xs : List Value} (h : w.ownsRow B e 1 v n xs) : ∃ ao c, v = .slice ao n c ∧ n ≤ c ∧ (0 < n → ∃ g, ao = some ⟨g, 0, none⟩) := by
  rcases h.2 with ⟨rfl, rfl⟩ | ⟨g, cap, cur, rfl, _, _, h3, _⟩
  · exact ⟨none, 0, rfl, Nat.le_refl _, fun h => absurd h (Nat.lt_irrefl _)⟩
  · exact ⟨_, _, rfl, h3, fun _ => ⟨g, rfl⟩⟩

/-- Rows of two types of elements lie in two blocks. -/
theorem own_apart {w : World} {G G' n m : Nat} {e e' : TypeId} (hne : e ≠ e') {v u : Value} {xs ys : List Value} (h : w.ownsRow G e 1 v n xs) (k : w.ownsRow G' e' 1 u m ys) : u.ownBlock = none ∨ u.ownBlock ≠ v.ownBlock := by
  rcases k.2 with ⟨rfl, _⟩ | ⟨g2, cap2, cur2, rfl, _, hg2, _⟩
  · left; rfl
  right
  rcases h.2 with ⟨rfl, _⟩ | ⟨g, cap, cur, rfl, _, hg, _⟩
  · simp [Value.ownBlock]
  · intro e1
    simp [Value.ownBlock] at e1
    subst e1
    rw [hg] at hg2
    simp only [Option.some.injEq, Obj.cells.injEq] at hg2
    exact hne hg2.2.1

/-- The string of an owned row of bytes. -/
theorem own_str {w : World} {G n : Nat} {v : Value} {xs : List Int} (h : w.ownsRow G 5 1 v n (xs.map (Value.int .u8))) : (convert 22 9 v).run Try.prog w = .ok (.string (strOfNums xs)) w :=
  ownsRow_string h

/-- The string of a piece. -/
theorem Src.str {w : World} {a : Option Addr} {len cap : Nat} {bs : List Int} (h : Src w a len cap bs) : (convert 22 9 (.slice a len cap)).run Try.prog w = .ok (.string (strOfNums bs)) w := by
  have e := h.front len cap (Nat.le_refl _)
  rw [List.take_of_length_le (by rw [h.size]; exact Nat.le_refl _)] at e
  exact e

end Go.Proofs.Ytgiepkiogjkjjaa
