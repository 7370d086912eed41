/-
  Whether two trees are the same, with or without their places.
-/
import Derived.Test.YtcddbfdbhjkjgaaGreatDoorEwA
namespace Go.Proofs.YtcddbfdbhjkjgaaGreatDoor
open Go.RowKit

mutual
def sm (pl : Bool) : GX → GX → Bool
  | .mk k n s o l p, .mk k' n' s' o' l' p' => (k == k') && (n == n') && (s == s') && (o == o') && (!pl || (p == p')) && decide (l.length = l'.length) && sms pl l l'
def sms (pl : Bool) : List GX → List GX → Bool
  | x :: l, y :: l' => sm pl x y && sms pl l l'
  | _, _ => true
end

theorem sms_cons (pl : Bool) (x y : GX) (l l' : List GX) : sms pl (x :: l) (y :: l') = (sm pl x y && sms pl l l') := by rw [sms]
theorem sms_nil (pl : Bool) (l : List GX) : sms pl [] l = true := by cases l <;> rw [sms] <;> intros <;> contradiction

mutual
theorem sm_true : ∀ x y : GX, sm true x y = true ↔ x = y
  | .mk k n s o l p, .mk k' n' s' o' l' p' => by
    rw [sm]
    simp only [Bool.and_eq_true, beq_iff_eq, Bool.not_true, Bool.false_or, decide_eq_true_eq, GX.mk.injEq]
    constructor
    · rintro ⟨⟨⟨⟨⟨⟨h1, h2⟩, h3⟩, h4⟩, h5⟩, h6⟩, h7⟩
      exact ⟨h1, h2, h3, h4, (sms_true l l' h6).1 h7, h5⟩
    · rintro ⟨h1, h2, h3, h4, h5, h6⟩
      exact ⟨⟨⟨⟨⟨⟨h1, h2⟩, h3⟩, h4⟩, h6⟩, by rw [h5]⟩, (sms_true l l' (by rw [h5])).2 h5⟩
theorem sms_true : ∀ l l' : List GX, l.length = l'.length → (sms true l l' = true ↔ l = l')
  | [], [], _ => by simp [sms_nil]
  | [], _ :: _, h => by simp at h
  | _ :: _, [], h => by simp at h
  | x :: l, y :: l', h => by
    rw [sms_cons, Bool.and_eq_true, sm_true x y, sms_true l l' (by simpa using h), List.cons.injEq]
end

theorem ers_len : ∀ l : List GX, (GX.ers l).length = l.length
  | [] => by rw [GX.ers]
  | x :: l => by rw [GX.ers, List.length_cons, List.length_cons, ers_len l]

mutual
theorem sm_false : ∀ x y : GX, sm false x y = true ↔ x.er = y.er
  | .mk k n s o l p, .mk k' n' s' o' l' p' => by
    rw [sm, GX.er, GX.er]
    simp only [Bool.and_eq_true, beq_iff_eq, Bool.not_false, Bool.true_or, decide_eq_true_eq, GX.mk.injEq, and_true]
    constructor
    · rintro ⟨⟨⟨⟨⟨h1, h2⟩, h3⟩, h4⟩, h6⟩, h7⟩
      exact ⟨h1, h2, h3, h4, (sms_false l l' h6).1 h7⟩
    · rintro ⟨h1, h2, h3, h4, h5⟩
      have h6 : l.length = l'.length := by rw [← ers_len l, ← ers_len l', h5]
      exact ⟨⟨⟨⟨⟨h1, h2⟩, h3⟩, h4⟩, h6⟩, (sms_false l l' h6).2 h5⟩
theorem sms_false : ∀ l l' : List GX, l.length = l'.length → (sms false l l' = true ↔ GX.ers l = GX.ers l')
  | [], [], _ => by simp [sms_nil]
  | [], _ :: _, h => by simp at h
  | _ :: _, [], h => by simp at h
  | x :: l, y :: l', h => by
    rw [sms_cons, Bool.and_eq_true, sm_false x y, sms_false l l' (by simpa using h), GX.ers, GX.ers, List.cons.injEq]
end

/-- Where the heads of two trees part first. -/
theorem head_cases (pl : Bool) (k k' n n' o o' p p' : Int) (s s' : List UInt8) (m m' : Nat) :
    ((k == k') = false) ∨ ((k == k') = true ∧ (n == n') = false) ∨ ((k == k') = true ∧ (n == n') = true ∧ (s == s') = false) ∨ ((k == k') = true ∧ (n == n') = true ∧ (s == s') = true ∧ (o == o') = false) ∨
    ((k == k') = true ∧ (n == n') = true ∧ (s == s') = true ∧ (o == o') = true ∧ pl = true ∧ (p == p') = false) ∨
    ((k == k') = true ∧ (n == n') = true ∧ (s == s') = true ∧ (o == o') = true ∧ (pl = false ∨ (pl = true ∧ (p == p') = true)) ∧ ((m : Int) == m') = false) ∨
    ((k == k') = true ∧ (n == n') = true ∧ (s == s') = true ∧ (o == o') = true ∧ (pl = false ∨ (pl = true ∧ (p == p') = true)) ∧ ((m : Int) == m') = true) := by
  cases k == k' <;> cases n == n' <;> cases s == s' <;> cases o == o' <;> cases pl <;> cases p == p' <;> cases (m : Int) == m' <;> simp

theorem GV.out {w : World} {lo hi : Nat} {x : GX} {v : EV} (h : GV w lo hi x v) : v.kind = x.kind ∧ v.num = x.num ∧ v.name.data.toList = x.name ∧ v.op = x.op ∧ v.p = x.p ∧ v.len = x.subs.length ∧ v.len ≤ v.cap ∧ v.cap ≤ maxLen ∧ GRow w lo hi x.subs v.A 0 := by
  cases x
  unfold GV at h
  exact h

theorem sm_eq (pl : Bool) (x y : GX) : sm pl x y = ((x.kind == y.kind) && (x.num == y.num) && (x.name == y.name) && (x.op == y.op) && (!pl || (x.p == y.p)) && decide (x.subs.length = y.subs.length) && sms pl x.subs y.subs) := by
  cases x; cases y; rw [sm]; rfl

theorem sub_size {x : GX} {i : Nat} {y : GX} (h : x.subs[i]? = some y) : SizeOf.sizeOf y < SizeOf.sizeOf x := by
  cases x with
  | mk k n s o l p =>
    have hm : y ∈ l := List.mem_of_getElem? h
    have := List.sizeOf_lt_of_mem hm
    simp only [GX.mk.sizeOf_spec]
    omega

end Go.Proofs.YtcddbfdbhjkjgaaGreatDoor
