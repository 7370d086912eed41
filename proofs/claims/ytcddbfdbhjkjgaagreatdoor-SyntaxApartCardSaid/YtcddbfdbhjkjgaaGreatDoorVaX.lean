/-
  Regions that draw their order, whose operations make memory each for itself: one walk for each operation, not one for each order.
-/
import Derived.Test.YtcddbfdbhjkjgaaGreatDoorCA
import Derived.Deep.RegionHeld3
import Derived.Below
namespace Go.Proofs.YtcddbfdbhjkjgaaGreatDoor
open Go.RowKit

section
variable {P : Program} {ops : Array Oper} {Q : Exit → Act → World → Prop}

def updV (vals : Nat → Option Value) (i : Nat) (v : Value) : Nat → Option Value := fun j => if j = i then some v else vals j
theorem updV_same (vals : Nat → Option Value) (i : Nat) (v : Value) : updV vals i v i = some v := if_pos rfl
theorem updV_ne (vals : Nat → Option Value) {i j : Nat} (v : Value) (h : j ≠ i) : updV vals i v j = vals j := if_neg h

/-- One operation's value, where it has come. -/
def put1 (ops : Array Oper) (vals : Nat → Option Value) (a : Act) (i : Nat) : Act :=
  match vals i, ops[i]? with
  | some v, some o => a.put o.dst v
  | _, _ => a

/-- The frame behind the operations that have come. -/
def puts (ops : Array Oper) (vals : Nat → Option Value) (L : List Nat) (a : Act) : Act := L.foldl (put1 ops vals) a

theorem put_comm {a : Act} {d e : Option Tmp} {u v : Value} (h : d = none ∨ e = none ∨ d ≠ e) : (a.put d u).put e v = (a.put e v).put d u := by
  cases d with
  | none => rfl
  | some d =>
    cases e with
    | none => rfl
    | some e =>
      have hne : d ≠ e := by
        rcases h with h | h | h
        · cases h
        · cases h
        · exact fun hh => h (by rw [hh])
      show ({ a with tmps := (a.tmps.setIfInBounds d u).setIfInBounds e v } : Act) = { a with tmps := (a.tmps.setIfInBounds e v).setIfInBounds d u }
      rw [Array.setIfInBounds_comm _ _ hne]

theorem puts_put {vals : Nat → Option Value} {d : Option Tmp} {v : Value} : ∀ (L : List Nat) (a : Act), (∀ j ∈ L, ∀ o, ops[j]? = some o → o.dst = none ∨ d = none ∨ o.dst ≠ d) → (puts ops vals L a).put d v = puts ops vals L (a.put d v)
  | [], a, _ => rfl
  | j :: L, a, h => by
    show (puts ops vals L (put1 ops vals a j)).put d v = puts ops vals L (put1 ops vals (a.put d v) j)
    rw [puts_put L _ (fun k hk => h k (by simp [hk]))]
    congr 1
    unfold put1
    split
    · rename_i u o hu ho
      exact put_comm (h j (by simp) o ho)
    · rfl

theorem puts_upd {vals : Nat → Option Value} {i : Nat} {v : Value} : ∀ (L : List Nat) (a : Act), i ∉ L → puts ops (updV vals i v) L a = puts ops vals L a
  | [], a, _ => rfl
  | j :: L, a, h => by
    have hj : j ≠ i := fun e => h (by rw [e]; simp)
    show puts ops (updV vals i v) L (put1 ops (updV vals i v) a j) = puts ops vals L (put1 ops vals a j)
    rw [puts_upd L _ (fun e => h (by simp [e]))]
    congr 1
    unfold put1
    rw [updV_ne vals v hj]

theorem puts_set {vals : Nat → Option Value} {i : Nat} {o : Oper} {v : Value} (ho : ops[i]? = some o) (hv : vals i = none) : ∀ (L : List Nat) (a : Act), L.Nodup → i ∈ L → (∀ j ∈ L, j ≠ i → ∀ p, ops[j]? = some p → p.dst = none ∨ o.dst = none ∨ p.dst ≠ o.dst) →
    puts ops (updV vals i v) L a = (puts ops vals L a).put o.dst v
  | [], a, _, hi, _ => by simp at hi
  | j :: L, a, hn, hi, hd => by
    rw [List.nodup_cons] at hn
    by_cases hj : j = i
    · subst hj
      show puts ops (updV vals j v) L (put1 ops (updV vals j v) a j) = (puts ops vals L (put1 ops vals a j)).put o.dst v
      rw [puts_upd L _ hn.1, puts_put L _ (fun k hk p hp => hd k (by simp [hk]) (fun e => hn.1 (e ▸ hk)) p hp)]
      congr 1
      unfold put1
      rw [updV_same, ho, hv]
    · show puts ops (updV vals i v) L (put1 ops (updV vals i v) a j) = (puts ops vals L (put1 ops vals a j)).put o.dst v
      have hiL : i ∈ L := by
        rcases List.mem_cons.1 hi with h | h
        · exact absurd h.symm hj
        · exact h
      rw [puts_set ho hv L _ hn.2 hiL (fun k hk => hd k (by simp [hk]))]
      congr 2
      unfold put1
      rw [updV_ne vals v hj]

/-- No two operations write one slot; none is guarded; edges lead back. -/
def freeB (ops : Array Oper) : Bool :=
  ((List.range ops.size).all fun i => (List.range ops.size).all fun j => i == j || (match ops[i]?, ops[j]? with | some o, some p => o.dst.isNone || p.dst.isNone || o.dst != p.dst | _, _ => true)) &&
  ((List.range ops.size).all fun i => match ops[i]? with | some o => o.guard.isNone && o.after.all (fun e => !Region.binds .any e || decide (e.on < i)) | none => true)

theorem freeB_dst (h : freeB ops = true) {i j : Nat} {o p : Oper} (hi : ops[i]? = some o) (hj : ops[j]? = some p) (hne : j ≠ i) : p.dst = none ∨ o.dst = none ∨ p.dst ≠ o.dst := by
  unfold freeB at h
  rw [Bool.and_eq_true] at h
  have h1 := List.all_eq_true.1 (List.all_eq_true.1 h.1 j (List.mem_range.2 (Array.getElem?_eq_some_iff.1 hj).1)) i (List.mem_range.2 (Array.getElem?_eq_some_iff.1 hi).1)
  simp only [hi, hj, Bool.or_eq_true, beq_iff_eq, Option.isNone_iff_eq_none, bne_iff_ne] at h1
  rcases h1 with h1 | (h1 | h1) | h1
  · exact absurd h1 hne
  · exact .inl h1
  · exact .inr (.inl h1)
  · exact .inr (.inr h1)

theorem freeB_op (h : freeB ops = true) {i : Nat} {o : Oper} (hi : ops[i]? = some o) : o.guard = none ∧ ∀ e ∈ o.after, Region.binds .any e = true → e.on < i := by
  unfold freeB at h
  rw [Bool.and_eq_true] at h
  have h1 := List.all_eq_true.1 h.2 i (List.mem_range.2 (Array.getElem?_eq_some_iff.1 hi).1)
  simp only [hi, Bool.and_eq_true, Option.isNone_iff_eq_none, Array.all_eq_true_iff_forall_mem, Bool.or_eq_true, Bool.not_eq_true', decide_eq_true_eq] at h1
  refine ⟨h1.1, fun e he hb => ?_⟩
  rcases h1.2 e he with h2 | h2
  · rw [h2] at hb; cases hb
  · exact h2

/-- Where none is ready all have come. -/
theorem all_come (h : freeB ops = true) {listed : Array Bool} (hr : Region.ready .any ops listed = []) : ∀ i, i < ops.size → listed.getD i true = true := by
  intro i
  induction i using Nat.strongRecOn with
  | _ i ih =>
    intro hi
    by_cases c : listed.getD i true = true
    · exact c
    · have c' : listed.getD i true = false := by simpa using c
      have hm : i ∈ Region.ready .any ops listed := by
        refine mem_ready.2 ⟨c', ops[i], Array.getElem?_eq_getElem hi, fun e he hb => ?_⟩
        have h1 := (freeB_op h (Array.getElem?_eq_getElem hi)).2 e he hb
        have h2 := ih e.on h1 (by omega)
        rw [Array.getD_eq_getD_getElem?] at h2 ⊢
        cases hh : listed[e.on]? with
        | some b => rw [hh] at h2; exact h2
        | none =>
          exfalso
          have h3 := Array.getElem?_eq_none_iff.1 hh
          rw [Array.getD_eq_getD_getElem?, Array.getElem?_eq_none (by omega)] at c'
          cases c'
      rw [hr] at hm
      cases hm

theorem wpAny_free (base : Act) (hB : freeB ops = true) (I : (Nat → Option Value) → World → Prop)
    (hstep : ∀ vals w i o, I vals w → ops[i]? = some o → vals i = none → (∀ e ∈ o.after, Region.binds .any e = true → (vals e.on).isSome = true) →
      o.wp P (puts ops vals (List.range ops.size) base) w (fun a' w' => ∃ v, a' = (puts ops vals (List.range ops.size) base).put o.dst v ∧ I (updV vals i v) w') Q)
    (hdone : ∀ vals w, I vals w → (∀ i, i < ops.size → (vals i).isSome = true) → Q .normal (puts ops vals (List.range ops.size) base) w) :
    ∀ (fuel : Nat) (listed : Array Bool) (vals : Nat → Option Value) (w : World) (S : List Nat), listed.size = ops.size → (∀ i, i < ops.size → listed.getD i true = (vals i).isSome) → S.length ≤ fuel → (∀ i, i < ops.size → vals i = none → i ∈ S) → I vals w →
      wpAny P .any ops Q fuel listed (puts ops vals (List.range ops.size) base) w
  | 0, listed, vals, w, S, hs, hl, hf, hS, hI => by
    have hall : ∀ i, i < ops.size → (vals i).isSome = true := fun i hi => by
      cases hv : vals i with
      | some v => rfl
      | none =>
        have := hS i hi hv
        rw [List.eq_nil_of_length_eq_zero (Nat.le_zero.1 hf)] at this
        cases this
    refine ⟨?_, hdone vals w hI hall⟩
    refine List.eq_nil_iff_forall_not_mem.2 fun i hi => ?_
    obtain ⟨h1, o, ho, _⟩ := mem_ready.1 hi
    have hlt := (Array.getElem?_eq_some_iff.1 ho).1
    rw [hl i hlt, hall i hlt] at h1
    cases h1
  | fuel + 1, listed, vals, w, S, hs, hl, hf, hS, hI => by
    refine ⟨fun hr => hdone vals w hI (fun i hi => by rw [← hl i hi]; exact all_come hB hr i hi), fun i hi => ?_⟩
    obtain ⟨h1, o, ho, hdep⟩ := mem_ready.1 hi
    have hlt := (Array.getElem?_eq_some_iff.1 ho).1
    have hv : vals i = none := by
      rw [hl i hlt] at h1
      simpa using h1
    have hst := hstep vals w i o hI ho hv (fun e he hb => by
      have h2 := hdep e he hb
      have hlt2 : e.on < ops.size := by have := (freeB_op hB ho).2 e he hb; omega
      rw [← hl e.on hlt2]
      rw [Array.getD_eq_getD_getElem?] at h2 ⊢
      cases hh : listed[e.on]? with
      | some b => rw [hh] at h2; exact h2
      | none => rfl)
    have hg := (freeB_op hB ho).1
    unfold wpOp
    rw [ho]
    simp only
    rw [if_pos (by simp [Region.wanted, hg])]
    left
    refine Oper.wp_mono (fun a' w' hh => ?_) hst
    obtain ⟨v, rfl, hI'⟩ := hh
    rw [← puts_set ho hv (List.range ops.size) base List.nodup_range (List.mem_range.2 hlt) (fun j hj hne p hp => freeB_dst hB ho hp hne)]
    refine wpAny_free base hB I hstep hdone fuel _ (updV vals i v) w' (S.erase i) (by simpa using hs) (fun j hj => ?_) ?_ (fun j hj hn => ?_) hI'
    · by_cases c : j = i
      · subst c
        rw [updV_same, Array.getD_eq_getD_getElem?, Array.getElem?_setIfInBounds_self_of_lt (by omega)]
        rfl
      · rw [updV_ne vals v c, ← hl j hj, Array.getD_eq_getD_getElem?, Array.getD_eq_getD_getElem?, Array.getElem?_setIfInBounds_ne (fun e => c e.symm)]
    · have := List.length_erase_of_mem (hS i hlt hv)
      omega
    · by_cases c : j = i
      · subst c
        rw [updV_same] at hn
        cases hn
      · rw [updV_ne vals v c] at hn
        exact (List.mem_erase_of_ne c).2 (hS j hj hn)

/-- The slot of an operation. -/
def slotOf (ops : Array Oper) (j : Nat) : Nat := ((ops[j]?).bind (·.dst)).getD 0

theorem puts_other (vals : Nat → Option Value) (k : Nat) : ∀ (L : List Nat) (a : Act), (∀ j ∈ L, ∀ o, ops[j]? = some o → o.dst ≠ some k) → (puts ops vals L a).tmps[k]? = a.tmps[k]?
  | [], a, _ => rfl
  | j :: L, a, h => by
    show (puts ops vals L (put1 ops vals a j)).tmps[k]? = _
    rw [puts_other vals k L _ (fun i hi => h i (by simp [hi]))]
    unfold put1
    split
    · rename_i v o hv ho
      have := h j (by simp) o ho
      unfold Act.put
      split
      · rename_i d hd
        rw [hd] at this
        exact Array.getElem?_setIfInBounds_ne (fun e => this (by rw [e]))
      · rfl
    · rfl

theorem puts_at {vals : Nat → Option Value} {i : Nat} {o : Oper} {v : Value} {d : Tmp} (ho : ops[i]? = some o) (hd : o.dst = some d) (hv : vals i = some v) : ∀ (L : List Nat) (a : Act), L.Nodup → i ∈ L → d < a.tmps.size → (∀ j ∈ L, j ≠ i → ∀ p, ops[j]? = some p → p.dst = none ∨ o.dst = none ∨ p.dst ≠ o.dst) → (puts ops vals L a).tmps[d]? = some v
  | [], a, _, hi, _, _ => by simp at hi
  | j :: L, a, hn, hi, hsz, hdd => by
    rw [List.nodup_cons] at hn
    by_cases hj : j = i
    · subst hj
      show (puts ops vals L (put1 ops vals a j)).tmps[d]? = _
      rw [puts_other vals d L _ (fun k hk p hp e => by
        rcases hdd k (by simp [hk]) (fun e => hn.1 (e ▸ hk)) p hp with h | h | h
        · rw [h] at e; cases e
        · rw [h] at hd; cases hd
        · exact h (by rw [e, hd]))]
      unfold put1
      rw [hv, ho]
      simp only [Act.put, hd]
      exact Array.getElem?_setIfInBounds_self_of_lt hsz
    · show (puts ops vals L (put1 ops vals a j)).tmps[d]? = _
      have hiL : i ∈ L := by
        rcases List.mem_cons.1 hi with h | h
        · exact absurd h.symm hj
        · exact h
      refine puts_at ho hd hv L _ hn.2 hiL ?_ (fun k hk => hdd k (by simp [hk]))
      unfold put1
      split
      · unfold Act.put
        split <;> simp [hsz]
      · exact hsz

/-- What the operations that one hangs on are: checked. -/
def depsB (ops : Array Oper) (D : Nat → List Nat) : Bool :=
  (List.range ops.size).all fun i => match ops[i]? with
    | some o => (D i).all fun j => decide (j < i) && o.after.any (fun e => e.on == j && Region.binds .any e) && (match ops[j]? with | some p => p.dst.isSome | none => false)
    | none => true

/-- No slot of the region's. -/
def outB (ops : Array Oper) (k : Nat) : Bool := ops.all fun o => o.dst != some k

/-- Slots of the region lie in the frame. -/
def inB (ops : Array Oper) (n : Nat) : Bool := ops.all fun o => match o.dst with | some d => decide (d < n) | none => true

/-- Each operation but the last is one that a later one hangs on. -/
def coverB (ops : Array Oper) (last : Nat) : Bool :=
  (List.range last).all fun i => (List.range (last + 1)).any fun k => decide (i < k) && (match ops[k]? with | some o => o.after.any (fun e => e.on == i && Region.binds .any e) | none => false)

theorem cover_all {last : Nat} (hc : coverB ops last = true) {p : Nat → Prop} (hp : ∀ k o, k ≤ last → ops[k]? = some o → (k = last ∨ p k) → ∀ e ∈ o.after, Region.binds .any e = true → p e.on) : ∀ i, i < last → p i := by
  have main : ∀ d i, i < last → last - i ≤ d → p i := by
    intro d
    induction d with
    | zero => intro i hi hd; omega
    | succ d ih =>
      intro i hi hd
      unfold coverB at hc
      obtain ⟨k, hk, hh⟩ := List.any_eq_true.1 (List.all_eq_true.1 hc i (List.mem_range.2 hi))
      rw [Bool.and_eq_true, decide_eq_true_eq] at hh
      have hkl := List.mem_range.1 hk
      obtain ⟨h1, h2⟩ := hh
      cases ho : ops[k]? with
      | none => rw [ho] at h2; cases h2
      | some o =>
        rw [ho] at h2
        simp only at h2
        rw [← Array.any_toList] at h2
        obtain ⟨e, he0, h3⟩ := List.any_eq_true.1 h2
        have he : e ∈ o.after := Array.mem_toList_iff.1 he0
        rw [Bool.and_eq_true, beq_iff_eq] at h3
        have := hp k o (by omega) ho (by
          by_cases c : k = last
          · exact .inl c
          · exact .inr (ih k (by omega) (by omega))) e he h3.2
        rw [h3.1] at this
        exact this
  exact fun i hi => main (last - i) i hi (Nat.le_refl _)

end

end Go.Proofs.YtcddbfdbhjkjgaaGreatDoor
