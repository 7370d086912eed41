/-
  What an expression comes to, in plain lists: any tree of data, any environment.
-/
import Derived.Test.YthgodhojhajahaaGreatDoorXE
import Derived.Test.YthgodhojhajahaaGreatDoorCA
namespace Go.Proofs.YthgodhojhajahaaGreatDoor

/-- An environment: names, their numbers, the states that are active. -/
structure EnvP where
  names : List (List UInt8)
  nums : List Int
  act : List (List UInt8)

/-- A name's number. -/
def lookP (s : List UInt8) : List (List UInt8) → List Int → Int × Int
  | [], _ => (0, 23)
  | m :: ms, ns => if m = s then (match ns with | n :: _ => (n, 0) | [] => (0, 23)) else lookP s ms ns.tail

/-- What has no parts. -/
def leafP (e : EnvP) (k num : Int) (s : List UInt8) : Int × Int :=
  if k = 1 then (num, 0) else if k = 3 then (if s ∈ e.act then 1 else 0, 0) else lookP s e.names e.nums

/-- A node, of what its parts come to. -/
def nodeP (e : EnvP) (k num : Int) (s : List UInt8) (op : Int) : List (Int × Int) → Int × Int
  | [] => if k = 1 ∨ k = 2 ∨ k = 3 then leafP e k num s else (0, 22)
  | [a] => if k = 4 then (if a.2 = 0 then (oneN op a.1, oneE op) else (0, a.2)) else (0, 22)
  | [a, b] => if k = 5 then
      (if a.2 = 0 then
        (if op = 12 ∧ a.1 = 0 then (0, 0) else if op = 13 ∧ a.1 ≠ 0 then (1, 0) else if b.2 = 0 then (doN op a.1 b.1, doE op b.1) else (0, b.2))
      else (0, a.2)) else (0, 22)
  | _ => (0, 22)

mutual
/-- What an expression comes to, and its error. -/
def evP (e : EnvP) : GX → Int × Int
  | .mk k n s o l _ => nodeP e k n s o (evsP e l)
def evsP (e : EnvP) : List GX → List (Int × Int)
  | [] => []
  | x :: l => evP e x :: evsP e l
end

theorem evP_mk (e : EnvP) (k n : Int) (s : List UInt8) (o : Int) (l : List GX) (p : Int) : evP e (.mk k n s o l p) = nodeP e k n s o (evsP e l) := by rw [evP]
theorem evsP_nil (e : EnvP) : evsP e [] = [] := by rw [evsP]
theorem evsP_cons (e : EnvP) (x : GX) (l : List GX) : evsP e (x :: l) = evP e x :: evsP e l := by rw [evsP]
theorem evsP_len (e : EnvP) : ∀ l : List GX, (evsP e l).length = l.length
  | [] => by rw [evsP_nil]; rfl
  | x :: l => by rw [evsP_cons, List.length_cons, List.length_cons, evsP_len e l]

mutual
/-- Places are nothing to it. -/
theorem evP_er (e : EnvP) : ∀ x : GX, evP e x.er = evP e x
  | .mk k n s o l p => by rw [GX.er, evP_mk, evP_mk, evsP_er e l]
theorem evsP_er (e : EnvP) : ∀ l : List GX, evsP e (GX.ers l) = evsP e l
  | [] => by rw [GX.ers]
  | x :: l => by rw [GX.ers, evsP_cons, evsP_cons, evP_er e x, evsP_er e l]
end

mutual
/-- Has it a node of that kind with that name? -/
def hasP (kd : Int) (s : List UInt8) : GX → Bool
  | .mk k _ m _ l _ => (decide (k = kd) && decide (m = s)) || hassP kd s l
def hassP (kd : Int) (s : List UInt8) : List GX → Bool
  | [] => false
  | x :: l => hasP kd s x || hassP kd s l
end

/-- A number is one, an error is one. -/
theorem lookP_err (s : List UInt8) : ∀ (ms : List (List UInt8)) (ns : List Int), (lookP s ms ns).2 = 0 ∨ (lookP s ms ns).1 = 0
  | [], _ => .inr rfl
  | m :: ms, ns => by
    unfold lookP
    split
    · cases ns with
      | nil => exact .inr rfl
      | cons n ns => exact .inl rfl
    · exact lookP_err s ms ns.tail

mutual
/-- Other names change nothing. -/
theorem evP_alone (e : EnvP) (m : List UInt8) (n : Int) (act : List (List UInt8)) : ∀ x : GX, hasP 2 m x = false → (∀ s, hasP 3 s x = true → (s ∈ act ↔ s ∈ e.act)) → evP ⟨m :: e.names, n :: e.nums, act⟩ x = evP e x
  | .mk k num s o l p, h2, h3 => by
    rw [hasP, Bool.or_eq_false_iff] at h2
    have hs : evsP ⟨m :: e.names, n :: e.nums, act⟩ l = evsP e l := evsP_alone e m n act l h2.2 (fun t ht => h3 t (by rw [hasP, ht, Bool.or_true]))
    rw [evP_mk, evP_mk, hs]
    have hl : k = 1 ∨ k = 2 ∨ k = 3 → leafP ⟨m :: e.names, n :: e.nums, act⟩ k num s = leafP e k num s := by
      intro hk
      unfold leafP
      rcases hk with rfl | rfl | rfl
      · rfl
      · rw [if_neg (by decide), if_neg (by decide), if_neg (by decide), if_neg (by decide)]
        have hne : ¬ m = s := fun e => by
          have := h2.1
          rw [e] at this
          simp at this
        show lookP s (m :: e.names) (n :: e.nums) = lookP s e.names e.nums
        rw [lookP, if_neg hne]
        rfl
      · have h := h3 s (by rw [hasP]; simp)
        show ((if s ∈ act then 1 else 0, 0) : Int × Int) = (if s ∈ e.act then 1 else 0, 0)
        by_cases c : s ∈ e.act
        · rw [if_pos (h.2 c), if_pos c]
        · rw [if_neg (fun hh => c (h.1 hh)), if_neg c]
    match hq : evsP e l with
    | [] =>
      show (if k = 1 ∨ k = 2 ∨ k = 3 then leafP _ k num s else (0, 22)) = (if k = 1 ∨ k = 2 ∨ k = 3 then leafP e k num s else (0, 22))
      by_cases c : k = 1 ∨ k = 2 ∨ k = 3
      · rw [if_pos c, if_pos c, hl c]
      · rw [if_neg c, if_neg c]
    | [a] => rfl
    | [a, b] => rfl
    | a :: b :: c :: r => rfl
theorem evsP_alone (e : EnvP) (m : List UInt8) (n : Int) (act : List (List UInt8)) : ∀ l : List GX, hassP 2 m l = false → (∀ s, hassP 3 s l = true → (s ∈ act ↔ s ∈ e.act)) → evsP ⟨m :: e.names, n :: e.nums, act⟩ l = evsP e l
  | [], _, _ => by rw [evsP_nil, evsP_nil]
  | x :: l, h2, h3 => by
    rw [hassP, Bool.or_eq_false_iff] at h2
    rw [evsP_cons, evsP_cons, evP_alone e m n act x h2.1 (fun s hs => h3 s (by rw [hassP, hs, Bool.true_or])), evsP_alone e m n act l h2.2 (fun s hs => h3 s (by rw [hassP, hs, Bool.or_true]))]
end

end Go.Proofs.YthgodhojhajahaaGreatDoor
