/-
  The names that an expression has, in plain lists: rising, each once.
-/
import Derived.Test.YthgodhojhajahaaGreatDoorVaP
import Derived.Sort.Walk0
import Derived.Sort.KeysCollected
namespace Go.Proofs.YthgodhojhajahaaGreatDoor

/-- Ahead of one another, as bytes. -/
def ltB (a b : List UInt8) : Bool := Op.bytesLess a b

/-- A name at its place in a rising row, once. -/
def putP (s : List UInt8) : List (List UInt8) → List (List UInt8)
  | [] => [s]
  | m :: r => if ltB m s = true then m :: putP s r else if m = s then m :: r else s :: m :: r

mutual
/-- The names of a kind, among others. -/
def nmP (kd : Int) : GX → List (List UInt8) → List (List UInt8)
  | .mk k _ s _ l _, acc => nmsP kd l (if k = kd then putP s acc else acc)
def nmsP (kd : Int) : List GX → List (List UInt8) → List (List UInt8)
  | [], acc => acc
  | x :: l, acc => nmsP kd l (nmP kd x acc)
end

theorem nmP_mk (kd k n : Int) (s : List UInt8) (o : Int) (l : List GX) (p : Int) (acc : List (List UInt8)) : nmP kd (.mk k n s o l p) acc = nmsP kd l (if k = kd then putP s acc else acc) := by rw [nmP]
theorem nmsP_nil (kd : Int) (acc : List (List UInt8)) : nmsP kd [] acc = acc := by rw [nmsP]
theorem nmsP_cons (kd : Int) (x : GX) (l : List GX) (acc : List (List UInt8)) : nmsP kd (x :: l) acc = nmsP kd l (nmP kd x acc) := by rw [nmsP]

/-- Rising. -/
abbrev Rising (l : List (List UInt8)) : Prop := l.Pairwise (fun a b => a < b)

theorem ltB_iff (a b : List UInt8) : ltB a b = true ↔ a < b := by
  unfold ltB
  rw [bytesLess_eq, decide_eq_true_iff]

theorem mem_putP (s t : List UInt8) : ∀ l, t ∈ putP s l ↔ t = s ∨ t ∈ l
  | [] => by simp [putP]
  | m :: r => by
    unfold putP
    split
    · rw [List.mem_cons, mem_putP s t r, List.mem_cons]
      constructor
      · rintro (h | h | h)
        · exact .inr (.inl h)
        · exact .inl h
        · exact .inr (.inr h)
      · rintro (h | h | h)
        · exact .inr (.inl h)
        · exact .inl h
        · exact .inr (.inr h)
    · split
      · rename_i c
        subst c
        rw [List.mem_cons]
        constructor
        · exact fun h => .inr h
        · rintro (h | h)
          · exact .inl h
          · exact h
      · rw [List.mem_cons]

theorem putP_rising (s : List UInt8) : ∀ l, Rising l → Rising (putP s l)
  | [], _ => by simp [putP, Rising]
  | m :: r, h => by
    have h' := List.pairwise_cons.1 h
    unfold putP
    split
    · rename_i c
      refine List.pairwise_cons.2 ⟨fun t ht => ?_, putP_rising s r h'.2⟩
      rcases (mem_putP s t r).1 ht with rfl | ht
      · exact (ltB_iff _ _).1 c
      · exact h'.1 t ht
    · split
      · exact h
      · rename_i c d
        have hsm : s < m := by
          have c' : ¬ m < s := fun hh => c ((ltB_iff _ _).2 hh)
          rcases List.le_total s m with hh | hh
          · rcases Decidable.em (s < m) with k | k
            · exact k
            · exact absurd (List.le_antisymm k hh) d
          · exact absurd (List.le_antisymm hh c') d
        refine List.pairwise_cons.2 ⟨fun t ht => ?_, h⟩
        rcases List.mem_cons.1 ht with rfl | ht
        · exact hsm
        · exact List.lt_trans hsm (h'.1 t ht)

mutual
theorem nmP_rising (kd : Int) : ∀ (x : GX) (acc : List (List UInt8)), Rising acc → Rising (nmP kd x acc)
  | .mk k n s o l p, acc, h => by
    rw [nmP_mk]
    refine nmsP_rising kd l _ ?_
    split
    · exact putP_rising s acc h
    · exact h
theorem nmsP_rising (kd : Int) : ∀ (l : List GX) (acc : List (List UInt8)), Rising acc → Rising (nmsP kd l acc)
  | [], acc, h => by rw [nmsP_nil]; exact h
  | x :: l, acc, h => by rw [nmsP_cons]; exact nmsP_rising kd l _ (nmP_rising kd x acc h)
end

mutual
theorem mem_nmP (kd : Int) (t : List UInt8) : ∀ (x : GX) (acc : List (List UInt8)), t ∈ nmP kd x acc ↔ t ∈ acc ∨ hasP kd t x = true
  | .mk k n s o l p, acc => by
    rw [nmP_mk, mem_nmsP kd t l, hasP, Bool.or_eq_true, Bool.and_eq_true, decide_eq_true_iff, decide_eq_true_iff]
    by_cases c : k = kd
    · rw [if_pos c, mem_putP]
      constructor
      · rintro ((h | h) | h)
        · exact .inr (.inl ⟨c, h.symm⟩)
        · exact .inl h
        · exact .inr (.inr h)
      · rintro (h | ⟨_, h⟩ | h)
        · exact .inl (.inr h)
        · exact .inl (.inl h.symm)
        · exact .inr h
    · rw [if_neg c]
      constructor
      · rintro (h | h)
        · exact .inl h
        · exact .inr (.inr h)
      · rintro (h | ⟨h, _⟩ | h)
        · exact .inl h
        · exact absurd h c
        · exact .inr h
theorem mem_nmsP (kd : Int) (t : List UInt8) : ∀ (l : List GX) (acc : List (List UInt8)), t ∈ nmsP kd l acc ↔ t ∈ acc ∨ hassP kd t l = true
  | [], acc => by
    rw [nmsP_nil, hassP]
    simp
  | x :: l, acc => by
    rw [nmsP_cons, mem_nmsP kd t l, mem_nmP kd t x, hassP, Bool.or_eq_true, or_assoc]
end

theorem rising_nodup {l : List (List UInt8)} (h : Rising l) : l.Nodup := h.imp (fun {a b} hab e => by
  subst e
  exact List.lt_irrefl _ hab)

/-- A rising row is sorted. -/
theorem rising_sorted {l l' : List (List UInt8)} (h : Rising l) (hp : l'.Perm l) : l'.mergeSort (fun x y => decide (x ≤ y)) = l := by
  rw [mergeSort_of_perm hp]
  exact List.mergeSort_of_pairwise (h.imp (fun {a b} hab => by simpa using List.le_of_lt hab))

end Go.Proofs.YthgodhojhajahaaGreatDoor
