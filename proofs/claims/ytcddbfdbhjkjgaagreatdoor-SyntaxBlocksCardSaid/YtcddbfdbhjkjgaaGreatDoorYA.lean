/-
  Charts, in plain lists of tokens: the grammar read from left to right.
  Charts, in plain lists of tokens: bodies, nodes, variables, the chart.
  Charts: reading without places.
  Charts: an empty block is as none.
  Charts: an empty block is as none: the parts, the chart.
  Charts: an empty block is as none: bodies, nodes, the chart.
  Charts: how many variables, and how many nodes, within each other too, there may be.
  Tokens of texts one behind another, without places.
  Charts: the laws' texts, and their tokens.
  The tokens of a text, printed one behind another with blanks and notes between.
-/
import Derived.Test.YtcddbfdbhjkjgaaGreatDoorXE
namespace Go.Proofs.YtcddbfdbhjkjgaaGreatDoor

/-- A variable, an act, a move, a node, a chart. -/
structure SyVar where
  name : List UInt8
  num : Int
  at_ : Int
structure SyAct where
  kind : Int
  name : List UInt8
  value : Option Ex
  at_ : Int
structure SyMove where
  kind : Int
  event : List UInt8
  wait : Int
  guarded : Bool
  guard : Option Ex
  acts : List SyAct
  targets : List (List UInt8)
  at_ : Int
inductive SyNode where
  | mk (kind : Int) (name initial default : List UInt8) (enter leave : List SyAct) (moves : List SyMove) (kids : List SyNode) (at_ : Int)
structure SyChart where
  vars : List SyVar
  root : SyNode

/-- The reader's state: the tokens ahead; how many nodes, moves, acts there were. -/
structure Ss where
  ts : List Tk
  n : Nat
  m : Nat
  a : Nat

/-- What reading a part comes to. -/
inductive Rs (α : Type) where
  | out
  | bad (code p : Int)
  | ok (x : α) (s : Ss)

def Rs.bind {α β : Type} (e : Rs α) (g : α → Ss → Rs β) : Rs β := match e with
  | .ok x s => g x s
  | .out => .out
  | .bad c p => .bad c p

@[simp] theorem Rs.bind_ok {α β : Type} (x : α) (s : Ss) (g : α → Ss → Rs β) : (Rs.ok x s).bind g = g x s := rfl
@[simp] theorem Rs.bind_bad {α β : Type} (c p : Int) (g : α → Ss → Rs β) : (Rs.bad c p : Rs α).bind g = .bad c p := rfl
@[simp] theorem Rs.bind_out {α β : Type} (g : α → Ss → Rs β) : (Rs.out : Rs α).bind g = .out := rfl

theorem Rs.some {α β : Type} {e : Rs α} {g : α → Ss → Rs β} {y : β} {r : Ss} (h : e.bind g = .ok y r) : ∃ x s, e = .ok x s ∧ g x s = .ok y r := by
  cases e with
  | out => cases h
  | bad c p => cases h
  | ok x s => exact ⟨x, s, rfl, h⟩

theorem Rs.congr {α β : Type} {e : Rs α} {g g' : α → Ss → Rs β} (h : ∀ x s, e = .ok x s → g x s = g' x s) : e.bind g = e.bind g' := by
  cases e with
  | out => rfl
  | bad c p => rfl
  | ok x s => exact h x s rfl

theorem Rs.notOut {α β : Type} {e : Rs α} {g : α → Ss → Rs β} (h0 : e ≠ .out) (h : ∀ x s, e = .ok x s → g x s ≠ .out) : e.bind g ≠ .out := by
  cases e with
  | out => exact absurd rfl h0
  | bad c p => intro h; cases h
  | ok x s => exact h x s rfl

theorem Rs.assoc {α β γ : Type} (e : Rs α) (g : α → Ss → Rs β) (h : β → Ss → Rs γ) : (e.bind g).bind h = e.bind fun x s => (g x s).bind h := by
  cases e <;> rfl

/-- What is read takes as many tokens at least. -/
def Takes {α : Type} (k : Nat) (s : Ss) (e : Rs α) : Prop := ∀ x s', e = .ok x s' → s'.ts.length + k ≤ s.ts.length

theorem Takes.bind {α β : Type} {k l : Nat} {s : Ss} {e : Rs α} {g : α → Ss → Rs β} (h : Takes k s e) (hg : ∀ x s', e = .ok x s' → Takes l s' (g x s')) : Takes (k + l) s (e.bind g) := fun y r hy => by
  obtain ⟨x, s', e1, e2⟩ := Rs.some hy
  have := h x s' e1
  have := hg x s' e1 y r e2
  omega
theorem Takes.mono {α : Type} {k l : Nat} {s : Ss} {e : Rs α} (h : Takes k s e) (hl : l ≤ k) : Takes l s e := fun x s' hx => by
  have := h x s' hx
  omega
theorem Takes.le_of {α : Type} {k : Nat} {s u : Ss} {e : Rs α} (h : Takes k u e) (hl : u.ts.length ≤ s.ts.length) : Takes k s e := fun x s' hx => by
  have := h x s' hx
  omega
theorem Takes.ok {α : Type} (x : α) (s : Ss) : Takes 0 s (.ok x s) := fun y s' h => by
  injection h with _ h
  subst h
  exact Nat.le_refl _
theorem Takes.bad {α : Type} (k : Nat) (s : Ss) (c p : Int) : Takes k s (.bad c p : Rs α) := fun _ _ h => by cases h
theorem Takes.out {α : Type} (k : Nat) (s : Ss) : Takes k s (.out : Rs α) := fun _ _ h => by cases h
theorem Takes.next {α : Type} {k : Nat} {s : Ss} {t : Tk} {r : List Tk} {n m a : Nat} {e : Rs α} (hs : s.ts = t :: r) (h : Takes k ⟨r, n, m, a⟩ e) : Takes (k + 1) s e := fun x s' hx => by
  have := h x s' hx
  rw [hs, List.length_cons]
  simp only at this
  omega

/-- A loop: from round to round, while it goes on. -/
def itF {σ : Type} (stp : σ → Ss → Rs (σ × Bool)) : Nat → σ → Ss → Rs σ
  | 0, _, _ => .out
  | f + 1, x, s => (stp x s).bind fun y s' => if y.2 = true then itF stp f y.1 s' else .ok y.1 s'

/-- Each round that goes on takes a token. -/
def Goes {σ : Type} (stp : σ → Ss → Rs (σ × Bool)) : Prop := ∀ x s y s', stp x s = .ok (y, true) s' → s'.ts.length < s.ts.length
def Keeps {σ : Type} (stp : σ → Ss → Rs (σ × Bool)) : Prop := ∀ x s, Takes 0 s (stp x s)

theorem itF_same {σ : Type} {stp : σ → Ss → Rs (σ × Bool)} (hg : Goes stp) : ∀ f f' x s, s.ts.length < f → s.ts.length < f' → itF stp f x s = itF stp f' x s
  | 0, _, _, _, h, _ => by omega
  | _ + 1, 0, _, _, _, h => by omega
  | f + 1, f' + 1, x, s, h, h' => by
    rw [itF, itF]
    refine Rs.congr fun y s' e => ?_
    split
    · rename_i hy
      have e' : stp x s = .ok (y.1, true) s' := by rw [e, ← hy]
      have := hg _ _ _ _ e'
      exact itF_same hg f f' _ _ (by omega) (by omega)
    · rfl

theorem itF_out {σ : Type} {stp : σ → Ss → Rs (σ × Bool)} (hg : Goes stp) (ho : ∀ x s, stp x s ≠ .out) : ∀ f x s, s.ts.length < f → itF stp f x s ≠ .out
  | 0, _, _, h => by omega
  | f + 1, x, s, h => by
    rw [itF]
    refine Rs.notOut (ho x s) fun y s' e => ?_
    split
    · rename_i hy
      have e' : stp x s = .ok (y.1, true) s' := by rw [e, ← hy]
      have := hg _ _ _ _ e'
      exact itF_out hg ho f _ _ (by omega)
    · intro h; cases h

theorem itF_takes {σ : Type} {stp : σ → Ss → Rs (σ × Bool)} (hk : Keeps stp) : ∀ f x s, Takes 0 s (itF stp f x s)
  | 0, _, s => .out 0 s
  | f + 1, x, s => by
    rw [itF]
    refine Takes.bind (k := 0) (l := 0) (hk x s) fun y s' _ => ?_
    split
    · exact itF_takes hk f _ _
    · exact .ok _ _

def It {σ : Type} (stp : σ → Ss → Rs (σ × Bool)) (x : σ) (s : Ss) : Rs σ := itF stp (s.ts.length + 1) x s

theorem It_eq {σ : Type} {stp : σ → Ss → Rs (σ × Bool)} (hg : Goes stp) (x : σ) (s : Ss) : It stp x s = (stp x s).bind fun y s' => if y.2 = true then It stp y.1 s' else .ok y.1 s' := by
  unfold It
  rw [itF]
  refine Rs.congr fun y s' e => ?_
  split
  · rename_i hy
    have e' : stp x s = .ok (y.1, true) s' := by rw [e, ← hy]
    have := hg _ _ _ _ e'
    exact itF_same hg _ _ _ _ (by omega) (by omega)
  · rfl
theorem It_takes {σ : Type} {stp : σ → Ss → Rs (σ × Bool)} (hk : Keeps stp) (x : σ) (s : Ss) : Takes 0 s (It stp x s) := itF_takes hk _ x s
theorem It_out {σ : Type} {stp : σ → Ss → Rs (σ × Bool)} (hg : Goes stp) (ho : ∀ x s, stp x s ≠ .out) (x : σ) (s : Ss) : It stp x s ≠ .out := itF_out hg ho _ x s (by omega)

/-- Is a token that word, or sign? -/
def isTk (k : Int) (u : List UInt8) (t : Tk) : Bool := decide (t.kind = k) && decide (t.text = u)
/-- Does it stand there? -/
def isAt (k : Int) (u : List UInt8) : List Tk → Bool
  | [] => false
  | t :: _ => isTk k u t

/-- The token cannot stand there. -/
def wrongR {α : Type} : List Tk → Rs α
  | [] => .bad 0 0
  | t :: _ => if t.kind = 5 then .bad 3 t.at_ else .bad 4 t.at_
def stopR {α : Type} (c : Int) : List Tk → Rs α
  | [] => .bad 0 0
  | t :: _ => .bad c t.at_
/-- A fault at the token that stands there. -/
def atOf : List Tk → Int
  | [] => 0
  | t :: _ => t.at_
def kindOf : List Tk → Int
  | [] => 0
  | t :: _ => t.kind

theorem wrongR_cons {α : Type} (t : Tk) (r : List Tk) : (wrongR (t :: r) : Rs α) = if t.kind = 5 then .bad 3 t.at_ else .bad 4 t.at_ := rfl
theorem wrongR_takes {α : Type} (k : Nat) (s : Ss) (ts : List Tk) : Takes k s (wrongR ts : Rs α) := by
  cases ts with
  | nil => exact Takes.bad _ _ _ _
  | cons t r => rw [wrongR_cons]; split <;> exact Takes.bad _ _ _ _
theorem stopR_takes {α : Type} (k : Nat) (s : Ss) (c : Int) (ts : List Tk) : Takes k s (stopR c ts : Rs α) := by
  cases ts with
  | nil => exact Takes.bad _ _ _ _
  | cons t r => exact Takes.bad _ _ _ _
theorem wrongR_out {α : Type} (ts : List Tk) : (wrongR ts : Rs α) ≠ .out := by
  cases ts with
  | nil => intro h; cases h
  | cons t r => rw [wrongR_cons]; split <;> (intro h; cases h)
theorem stopR_out {α : Type} (c : Int) (ts : List Tk) : (stopR c ts : Rs α) ≠ .out := by
  cases ts with
  | nil => intro h; cases h
  | cons t r => intro h; cases h

def Ss.drop (s : Ss) : Ss := ⟨s.ts.tail, s.n, s.m, s.a⟩

/-- That word, or sign, must stand there. -/
def mustR (k : Int) (u : List UInt8) (s : Ss) : Rs Unit := if isAt k u s.ts = true then .ok () s.drop else wrongR s.ts
/-- A name, with its place; a number. -/
def nameR (s : Ss) : Rs (List UInt8 × Int) := match s.ts with
  | [] => .bad 0 0
  | t :: r => if t.kind = 1 then .ok (t.text, t.at_) ⟨r, s.n, s.m, s.a⟩ else wrongR (t :: r)
def numR (s : Ss) : Rs Int := match s.ts with
  | [] => .bad 0 0
  | t :: r => if t.kind = 3 then .ok t.num ⟨r, s.n, s.m, s.a⟩ else wrongR (t :: r)
def exprR (s : Ss) : Rs Ex := match Pf 0 0 s.ts with
  | .out => .out
  | .bad c p => .bad c p
  | .ok x r => .ok x ⟨r, s.n, s.m, s.a⟩

theorem isAt_cons {k : Int} {u : List UInt8} {ts : List Tk} (h : isAt k u ts = true) : ∃ t r, ts = t :: r := by
  cases ts with
  | nil => cases h
  | cons t r => exact ⟨t, r, rfl⟩
theorem drop_takes {α : Type} {k : Int} {u : List UInt8} {s : Ss} (h : isAt k u s.ts = true) (x : α) : Takes 1 s (.ok x s.drop) := fun y s' e => by
  injection e with _ e
  obtain ⟨t, r, hs⟩ := isAt_cons h
  subst e
  show s.ts.tail.length + 1 ≤ _
  rw [hs]
  exact Nat.le_refl _
theorem mustR_takes (k : Int) (u : List UInt8) (s : Ss) : Takes 1 s (mustR k u s) := by
  unfold mustR
  split
  · exact drop_takes (by assumption) _
  · exact wrongR_takes _ _ _
theorem nameR_takes (s : Ss) : Takes 1 s (nameR s) := by
  unfold nameR
  split
  · exact Takes.bad _ _ _ _
  · rename_i t r hs
    split
    · exact .next (k := 0) hs (.ok _ _)
    · exact wrongR_takes _ _ _
theorem numR_takes (s : Ss) : Takes 1 s (numR s) := by
  unfold numR
  split
  · exact Takes.bad _ _ _ _
  · rename_i t r hs
    split
    · exact .next (k := 0) hs (.ok _ _)
    · exact wrongR_takes _ _ _
theorem exprR_takes (s : Ss) : Takes 1 s (exprR s) := fun y s' h => by
  unfold exprR at h
  split at h
  · cases h
  · cases h
  · rename_i x r e
    injection h with _ h
    subst h
    exact Pf_len e
theorem mustR_out (k : Int) (u : List UInt8) (s : Ss) : mustR k u s ≠ .out := by
  unfold mustR
  split
  · intro h; cases h
  · exact wrongR_out _
theorem nameR_out (s : Ss) : nameR s ≠ .out := by
  unfold nameR
  split
  · intro h; cases h
  · split
    · intro h; cases h
    · exact wrongR_out _
theorem numR_out (s : Ss) : numR s ≠ .out := by
  unfold numR
  split
  · intro h; cases h
  · split
    · intro h; cases h
    · exact wrongR_out _
theorem exprR_out (s : Ss) : exprR s ≠ .out := by
  unfold exprR
  split
  · rename_i h
    exact absurd h (Pf_out (by omega))
  · intro h; cases h
  · intro h; cases h

/-- Words. -/
def wSet : List UInt8 := [115, 101, 116]
def wRaise : List UInt8 := [114, 97, 105, 115, 101]
def wEmit : List UInt8 := [101, 109, 105, 116]
def wOn : List UInt8 := [111, 110]
def wAlways : List UInt8 := [97, 108, 119, 97, 121, 115]
def wAfter : List UInt8 := [97, 102, 116, 101, 114]
def wInitial : List UInt8 := [105, 110, 105, 116, 105, 97, 108]
def wEnter : List UInt8 := [101, 110, 116, 101, 114]
def wLeave : List UInt8 := [108, 101, 97, 118, 101]
def wState : List UInt8 := [115, 116, 97, 116, 101]
def wParallel : List UInt8 := [112, 97, 114, 97, 108, 108, 101, 108]
def wHistory : List UInt8 := [104, 105, 115, 116, 111, 114, 121]
def wDeep : List UInt8 := [100, 101, 101, 112]
def wVar : List UInt8 := [118, 97, 114]
def wChart : List UInt8 := [99, 104, 97, 114, 116]

/-- Which of some words stands there, from one on; 0: none. -/
def wordAt (ts : List Tk) : List (List UInt8) → Nat → Nat
  | [], _ => 0
  | u :: l, i => if isAt 2 u ts = true then i else wordAt ts l (i + 1)
def actK (ts : List Tk) : Nat := wordAt ts [wSet, wRaise, wEmit] 1
def moveK (ts : List Tk) : Nat := wordAt ts [wOn, wAlways, wAfter] 1
def nodeK (ts : List Tk) : Nat := wordAt ts [wState, wParallel, wHistory, wDeep] 1

theorem wordAt_cons {ts : List Tk} : ∀ {l : List (List UInt8)} {i : Nat}, wordAt ts l i ≠ 0 → ∃ t r, ts = t :: r
  | [], _, h => absurd rfl h
  | u :: l, i, h => by
    unfold wordAt at h
    split at h
    · exact isAt_cons (by assumption)
    · exact wordAt_cons h

theorem dropW_takes {α : Type} {s : Ss} {l : List (List UInt8)} {i k n m a : Nat} (h : wordAt s.ts l i ≠ 0) {e : Rs α} (he : Takes k ⟨s.ts.tail, n, m, a⟩ e) : Takes (k + 1) s e := by
  obtain ⟨t, r, hs⟩ := wordAt_cons h
  rw [hs, List.tail_cons] at he
  exact .next hs he

/-- Behind an act's word: its kind, its place. -/
def actV (k : Nat) (s : Ss) : Rs (Option Ex) :=
  if k = 2 then .ok none s else (mustR 4 [61] s).bind fun _ s => (exprR s).bind fun x s => .ok (some x) s
def actR (s : Ss) : Rs SyAct :=
  if actK s.ts = 0 then wrongR s.ts
  else if s.a = 400 then stopR 2 s.ts
  else (nameR ⟨s.ts.tail, s.n, s.m, s.a + 1⟩).bind fun x s1 => (actV (actK s.ts) s1).bind fun v s2 => (mustR 4 [59] s2).bind fun _ s3 =>
    .ok ⟨actK s.ts, x.1, v, atOf s.ts⟩ s3

theorem actV_takes (k : Nat) (s : Ss) : Takes 0 s (actV k s) := by
  unfold actV
  split
  · exact .ok _ _
  · exact (Takes.bind (mustR_takes _ _ _) fun _ s1 _ => Takes.bind (exprR_takes s1) fun _ s2 _ => Takes.ok _ _).mono (by omega)
theorem actV_out (k : Nat) (s : Ss) : actV k s ≠ .out := by
  unfold actV
  split
  · intro h; cases h
  · exact Rs.notOut (mustR_out _ _ _) fun _ s1 _ => Rs.notOut (exprR_out s1) fun _ s2 _ h => by cases h
theorem actR_takes (s : Ss) : Takes 1 s (actR s) := by
  unfold actR
  split
  · exact wrongR_takes _ _ _
  · rename_i h0
    split
    · exact stopR_takes _ _ _ _
    · exact (dropW_takes h0 (Takes.bind (nameR_takes _) fun _ _ _ => Takes.bind (actV_takes _ _) fun _ _ _ => Takes.bind (mustR_takes _ _ _) fun _ _ _ => Takes.ok _ _)).mono (by omega)
theorem actR_out (s : Ss) : actR s ≠ .out := by
  unfold actR
  split
  · exact wrongR_out _
  · split
    · exact stopR_out _ _
    · exact Rs.notOut (nameR_out _) fun _ _ _ => Rs.notOut (actV_out _ _) fun _ _ _ => Rs.notOut (mustR_out _ _ _) fun _ _ _ h => by cases h

/-- Acts between braces. -/
def blkS (l : List SyAct) (s : Ss) : Rs (List SyAct × Bool) :=
  if isAt 4 [125] s.ts = true then .ok (l, false) s.drop else (actR s).bind fun x s' => .ok (l ++ [x], true) s'
def blockR (s : Ss) : Rs (List SyAct) := (mustR 4 [123] s).bind fun _ s' => It blkS [] s'

theorem blkS_goes : Goes blkS := fun x s y s' h => by
  unfold blkS at h
  split at h
  · injection h with h _; injection h with _ h; cases h
  · obtain ⟨z, s1, e, h⟩ := Rs.some h
    injection h with _ h
    have := actR_takes s _ _ e
    subst h
    omega
theorem blkS_keeps : Keeps blkS := fun x s => by
  unfold blkS
  split
  · exact (drop_takes (by assumption) _).mono (by omega)
  · exact (Takes.bind (actR_takes s) fun _ _ _ => Takes.ok _ _).mono (by omega)
theorem blkS_out (x : List SyAct) (s : Ss) : blkS x s ≠ .out := by
  unfold blkS
  split
  · intro h; cases h
  · exact Rs.notOut (actR_out s) fun _ _ _ h => by cases h
theorem blockR_takes (s : Ss) : Takes 1 s (blockR s) := (Takes.bind (mustR_takes _ _ s) fun _ _ _ => It_takes blkS_keeps _ _).mono (by omega)
theorem blockR_out (s : Ss) : blockR s ≠ .out := Rs.notOut (mustR_out _ _ s) fun _ _ _ => It_out blkS_goes blkS_out _ _

/-- A move's parts. -/
def evR (k : Nat) (s : Ss) : Rs (List UInt8) := if k = 1 then (nameR s).bind fun x s => .ok x.1 s else .ok [] s
def waitR (k : Nat) (s : Ss) : Rs Int := if k = 3 then numR s else .ok 0 s
def guardR (s : Ss) : Rs (Option Ex) := if isAt 4 [91] s.ts = true then (exprR s.drop).bind fun x s => (mustR 4 [93] s).bind fun _ s => .ok (some x) s else .ok none s
def actsR (s : Ss) : Rs (List SyAct) := if isAt 4 [123] s.ts = true then blockR s else .ok [] s
def tgtS (l : List (List UInt8)) (s : Ss) : Rs (List (List UInt8) × Bool) := (nameR s).bind fun x s => if isAt 4 [44] s.ts = true then .ok (l ++ [x.1], true) s.drop else .ok (l ++ [x.1], false) s
def tgtR (s : Ss) : Rs (List (List UInt8)) := if isAt 4 [45, 62] s.ts = true then It tgtS [] s.drop else .ok [] s

theorem drop_le (s : Ss) : s.drop.ts.length ≤ s.ts.length := by
  show s.ts.tail.length ≤ _
  rw [List.length_tail]
  omega
theorem Takes.dropped {α : Type} {k : Nat} {s : Ss} {e : Rs α} (h : Takes k s.drop e) : Takes k s e := fun x s' hx => by
  have := h x s' hx
  have := drop_le s
  omega
theorem tgtS_goes : Goes tgtS := fun x s y s' h => by
  obtain ⟨z, s1, e, h⟩ := Rs.some h
  have := nameR_takes s _ _ e
  split at h
  · injection h with _ h
    have := drop_le s1
    subst h
    omega
  · injection h with _ h
    subst h
    omega
theorem tgtS_keeps : Keeps tgtS := fun x s => by
  refine (Takes.bind (l := 0) (nameR_takes s) fun z s1 _ => ?_).mono (by omega)
  split
  · exact (Takes.ok _ _).dropped
  · exact .ok _ _
theorem tgtS_out (x : List (List UInt8)) (s : Ss) : tgtS x s ≠ .out := by
  refine Rs.notOut (nameR_out s) fun z s1 _ => ?_
  split <;> (intro h; cases h)
theorem evR_takes (k : Nat) (s : Ss) : Takes 0 s (evR k s) := by
  unfold evR
  split
  · exact (Takes.bind (nameR_takes s) fun _ _ _ => Takes.ok _ _).mono (by omega)
  · exact .ok _ _
theorem waitR_takes (k : Nat) (s : Ss) : Takes 0 s (waitR k s) := by
  unfold waitR
  split
  · exact (numR_takes s).mono (by omega)
  · exact .ok _ _
theorem guardR_takes (s : Ss) : Takes 0 s (guardR s) := by
  unfold guardR
  split
  · exact ((Takes.bind (exprR_takes _) fun _ _ _ => Takes.bind (mustR_takes _ _ _) fun _ _ _ => Takes.ok _ _).mono (by omega)).dropped
  · exact .ok _ _
theorem actsR_takes (s : Ss) : Takes 0 s (actsR s) := by
  unfold actsR
  split
  · exact (blockR_takes s).mono (by omega)
  · exact .ok _ _
theorem tgtR_takes (s : Ss) : Takes 0 s (tgtR s) := by
  unfold tgtR
  split
  · exact (It_takes tgtS_keeps _ _).dropped
  · exact .ok _ _
theorem evR_out (k : Nat) (s : Ss) : evR k s ≠ .out := by
  unfold evR
  split
  · exact Rs.notOut (nameR_out s) fun _ _ _ h => by cases h
  · intro h; cases h
theorem waitR_out (k : Nat) (s : Ss) : waitR k s ≠ .out := by
  unfold waitR
  split
  · exact numR_out s
  · intro h; cases h
theorem guardR_out (s : Ss) : guardR s ≠ .out := by
  unfold guardR
  split
  · exact Rs.notOut (exprR_out _) fun _ _ _ => Rs.notOut (mustR_out _ _ _) fun _ _ _ h => by cases h
  · intro h; cases h
theorem actsR_out (s : Ss) : actsR s ≠ .out := by
  unfold actsR
  split
  · exact blockR_out s
  · intro h; cases h
theorem tgtR_out (s : Ss) : tgtR s ≠ .out := by
  unfold tgtR
  split
  · exact It_out tgtS_goes tgtS_out _ _
  · intro h; cases h

/-- A move, whose word stands there. -/
def moveR (s : Ss) : Rs SyMove :=
  if s.m = 200 then stopR 2 s.ts
  else (evR (moveK s.ts) ⟨s.ts.tail, s.n, s.m + 1, s.a⟩).bind fun e s1 => (waitR (moveK s.ts) s1).bind fun w s2 => (guardR s2).bind fun g s3 =>
    (actsR s3).bind fun l s4 => (tgtR s4).bind fun q s5 => (mustR 4 [59] s5).bind fun _ s6 => .ok ⟨moveK s.ts, e, w, g.isSome, g, l, q, atOf s.ts⟩ s6

theorem moveR_takes (s : Ss) : Takes 1 s (moveR s) := by
  unfold moveR
  split
  · exact stopR_takes _ _ _ _
  · refine (Takes.bind (k := 0) (l := 1) (s := ⟨s.ts.tail, s.n, s.m + 1, s.a⟩) (evR_takes _ _) fun _ _ _ => ?_).le_of ?_
    · exact (Takes.bind (waitR_takes _ _) fun _ _ _ => Takes.bind (guardR_takes _) fun _ _ _ => Takes.bind (actsR_takes _) fun _ _ _ => Takes.bind (tgtR_takes _) fun _ _ _ => Takes.bind (mustR_takes _ _ _) fun _ _ _ => Takes.ok _ _).mono (by omega)
    · show s.ts.tail.length ≤ _
      rw [List.length_tail]
      omega
theorem moveR_out (s : Ss) : moveR s ≠ .out := by
  unfold moveR
  split
  · exact stopR_out _ _
  · exact Rs.notOut (evR_out _ _) fun _ _ _ => Rs.notOut (waitR_out _ _) fun _ _ _ => Rs.notOut (guardR_out _) fun _ _ _ => Rs.notOut (actsR_out _) fun _ _ _ => Rs.notOut (tgtR_out _) fun _ _ _ => Rs.notOut (mustR_out _ _ _) fun _ _ _ h => by cases h

/-- What a body has so far: the clauses, which of them there were, the moves. -/
structure SyB where
  initial : List UInt8
  enter : List SyAct
  leave : List SyAct
  moves : List SyMove
  hi : Bool
  he : Bool
  hl : Bool
def SyB.none : SyB := ⟨[], [], [], [], false, false, false⟩

def initS (b : SyB) (s : Ss) : Rs (SyB × Bool) :=
  if b.hi = true then wrongR s.ts else (nameR s.drop).bind fun x s1 => (mustR 4 [59] s1).bind fun _ s2 => .ok (⟨x.1, b.enter, b.leave, b.moves, true, b.he, b.hl⟩, true) s2
def enterS (b : SyB) (s : Ss) : Rs (SyB × Bool) :=
  if b.he = true then wrongR s.ts else (blockR s.drop).bind fun l s1 => .ok (⟨b.initial, l, b.leave, b.moves, b.hi, true, b.hl⟩, true) s1
def leaveS (b : SyB) (s : Ss) : Rs (SyB × Bool) :=
  if b.hl = true then wrongR s.ts else (blockR s.drop).bind fun l s1 => .ok (⟨b.initial, b.enter, l, b.moves, b.hi, b.he, true⟩, true) s1
def movS (b : SyB) (s : Ss) : Rs (SyB × Bool) :=
  if moveK s.ts = 0 then .ok (b, false) s else (moveR s).bind fun x s1 => .ok (⟨b.initial, b.enter, b.leave, b.moves ++ [x], b.hi, b.he, b.hl⟩, true) s1

/-- One clause more. -/
def clauseS (b : SyB) (s : Ss) : Rs (SyB × Bool) :=
  if isAt 2 wInitial s.ts = true then initS b s
  else if isAt 2 wEnter s.ts = true then enterS b s
  else if isAt 2 wLeave s.ts = true then leaveS b s
  else movS b s

theorem drop_lt {s : Ss} {t : Tk} {r : List Tk} (h : s.ts = t :: r) : s.drop.ts.length + 1 = s.ts.length := by
  show s.ts.tail.length + 1 = _
  rw [h]
  rfl

/-- A round: what it takes, if it goes on and if it does not. -/
def Steps {σ : Type} (s : Ss) (e : Rs (σ × Bool)) : Prop := ∀ y b s', e = .ok (y, b) s' → s'.ts.length + (if b = true then 1 else 0) ≤ s.ts.length
theorem Steps.of {σ : Type} {s : Ss} {e : Rs (σ × Bool)} (h : Takes 1 s e) : Steps s e := fun y b s' e' => by
  have := h _ _ e'
  split <;> omega
theorem Steps.stop {σ : Type} (s : Ss) (x : σ) : Steps s (.ok (x, false) s) := fun y b s' e' => by
  injection e' with e1 e2
  injection e1 with _ e1
  subst e1 e2
  exact Nat.le_refl _

theorem clauseS_steps (b : SyB) (s : Ss) : Steps s (clauseS b s) := by
  unfold clauseS
  split
  · obtain ⟨t, r, hs⟩ := isAt_cons (by assumption)
    have hd := drop_lt hs
    unfold initS
    split
    · exact .of (wrongR_takes _ _ _)
    · exact .of ((Takes.bind (nameR_takes _) fun _ _ _ => Takes.bind (mustR_takes _ _ _) fun _ _ _ => Takes.ok _ _).mono (by omega) |>.le_of (drop_le s))
  · split
    · obtain ⟨t, r, hs⟩ := isAt_cons (by assumption)
      unfold enterS
      split
      · exact .of (wrongR_takes _ _ _)
      · exact .of ((Takes.bind (blockR_takes _) fun _ _ _ => Takes.ok _ _).mono (by omega) |>.le_of (drop_le s))
    · split
      · unfold leaveS
        split
        · exact .of (wrongR_takes _ _ _)
        · exact .of ((Takes.bind (blockR_takes _) fun _ _ _ => Takes.ok _ _).mono (by omega) |>.le_of (drop_le s))
      · unfold movS
        split
        · exact .stop _ _
        · exact .of ((Takes.bind (moveR_takes _) fun _ _ _ => Takes.ok _ _).mono (by omega))
theorem clauseS_out (b : SyB) (s : Ss) : clauseS b s ≠ .out := by
  unfold clauseS
  split
  · unfold initS
    split
    · exact wrongR_out _
    · exact Rs.notOut (nameR_out _) fun _ _ _ => Rs.notOut (mustR_out _ _ _) fun _ _ _ h => by cases h
  · split
    · unfold enterS
      split
      · exact wrongR_out _
      · exact Rs.notOut (blockR_out _) fun _ _ _ h => by cases h
    · split
      · unfold leaveS
        split
        · exact wrongR_out _
        · exact Rs.notOut (blockR_out _) fun _ _ _ h => by cases h
      · unfold movS
        split
        · intro h; cases h
        · exact Rs.notOut (moveR_out _) fun _ _ _ h => by cases h

theorem goes_of {σ : Type} {stp : σ → Ss → Rs (σ × Bool)} (h : ∀ x s, Steps s (stp x s)) : Goes stp := fun x s y s' e => by
  have := h x s y true s' e
  rw [if_pos rfl] at this
  omega
theorem keeps_of {σ : Type} {stp : σ → Ss → Rs (σ × Bool)} (h : ∀ x s, Steps s (stp x s)) : Keeps stp := fun x s y s' e => by
  have := h x s y.1 y.2 s' e
  omega
theorem clauseS_goes : Goes clauseS := goes_of clauseS_steps
theorem clauseS_keeps : Keeps clauseS := keeps_of clauseS_steps

/-- One node more. -/
def kidS (nd : Ss → Rs SyNode) (l : List SyNode) (s : Ss) : Rs (List SyNode × Bool) :=
  if nodeK s.ts = 0 then .ok (l, false) s else (nd s).bind fun x s1 => .ok (l ++ [x], true) s1
theorem kidS_steps {nd : Ss → Rs SyNode} (h : ∀ s, Takes 1 s (nd s)) (l : List SyNode) (s : Ss) : Steps s (kidS nd l s) := by
  unfold kidS
  split
  · exact .stop _ _
  · exact .of ((Takes.bind (h s) fun _ _ _ => Takes.ok _ _).mono (by omega))
theorem kidS_goes {nd : Ss → Rs SyNode} (h : ∀ s, Takes 1 s (nd s)) : Goes (kidS nd) := goes_of (kidS_steps h)
theorem kidS_keeps {nd : Ss → Rs SyNode} (h : ∀ s, Takes 1 s (nd s)) : Keeps (kidS nd) := keeps_of (kidS_steps h)
theorem kidS_out {nd : Ss → Rs SyNode} (h : ∀ s, nd s ≠ .out) (l : List SyNode) (s : Ss) : kidS nd l s ≠ .out := by
  unfold kidS
  split
  · intro h; cases h
  · exact Rs.notOut (h s) fun _ _ _ h => by cases h

/-- A body: clauses, then nodes. -/
def bodyR (nd : Ss → Rs SyNode) (s : Ss) : Rs (SyB × List SyNode) := (It clauseS SyB.none s).bind fun b s1 => (It (kidS nd) [] s1).bind fun l s2 => .ok (b, l) s2
theorem bodyR_takes {nd : Ss → Rs SyNode} (h : ∀ s, Takes 1 s (nd s)) (s : Ss) : Takes 0 s (bodyR nd s) :=
  Takes.bind (k := 0) (l := 0) (It_takes clauseS_keeps _ s) fun _ _ _ => Takes.bind (k := 0) (l := 0) (It_takes (kidS_keeps h) _ _) fun _ _ _ => Takes.ok _ _
theorem bodyR_out {nd : Ss → Rs SyNode} (h : ∀ s, Takes 1 s (nd s)) (ho : ∀ s, nd s ≠ .out) (s : Ss) : bodyR nd s ≠ .out :=
  Rs.notOut (It_out clauseS_goes clauseS_out _ s) fun _ _ _ => Rs.notOut (It_out (kidS_goes h) (kidS_out ho) _ _) fun _ _ _ h => by cases h

/-- A node's name, for which there must be room: d more nodes within each other may stand there. -/
def namedR (d : Nat) (s : Ss) : Rs (List UInt8 × Int) := match s.ts with
  | [] => .bad 0 0
  | t :: r => if t.kind = 1 then (if s.n = 64 then .bad 2 t.at_ else if d = 0 then .bad 21 t.at_ else .ok (t.text, t.at_) ⟨r, s.n + 1, s.m, s.a⟩) else wrongR (t :: r)
theorem namedR_takes (d : Nat) (s : Ss) : Takes 1 s (namedR d s) := by
  unfold namedR
  split
  · exact Takes.bad _ _ _ _
  · rename_i t r hs
    split
    · split
      · exact Takes.bad _ _ _ _
      · split
        · exact Takes.bad _ _ _ _
        · exact .next (k := 0) hs (.ok _ _)
    · exact wrongR_takes _ _ _
theorem namedR_out (d : Nat) (s : Ss) : namedR d s ≠ .out := by
  unfold namedR
  split
  · intro h; cases h
  · split
    · split
      · intro h; cases h
      · split <;> (intro h; cases h)
    · exact wrongR_out _
theorem namedR_zero (s : Ss) : ∃ c p, namedR 0 s = .bad c p := by
  unfold namedR
  split
  · exact ⟨_, _, rfl⟩
  · split
    · split
      · exact ⟨_, _, rfl⟩
      · exact ⟨_, _, if_pos rfl⟩
    · rw [wrongR_cons]
      split <;> exact ⟨_, _, rfl⟩

def histR (k : Nat) (x : List UInt8 × Int) (s : Ss) : Rs SyNode :=
  (mustR 4 [45, 62] s).bind fun _ s2 => (nameR s2).bind fun y s3 => (mustR 4 [59] s3).bind fun _ s4 => .ok (.mk k x.1 [] y.1 [] [] [] [] x.2) s4
def nodeOf (k : Nat) (x : List UInt8 × Int) (z : SyB × List SyNode) : SyNode := .mk k x.1 z.1.initial [] z.1.enter z.1.leave z.1.moves z.2 x.2
def innerR (nd : Ss → Rs SyNode) (k : Nat) (x : List UInt8 × Int) (s : Ss) : Rs SyNode :=
  (mustR 4 [123] s).bind fun _ s2 => (bodyR nd s2).bind fun z s3 => (mustR 4 [125] s3).bind fun _ s4 => .ok (nodeOf k x z) s4

/-- A node, whose word stands there, where d more may stand within each other. -/
def nodeR : Nat → Ss → Rs SyNode
  | 0, s => (namedR 0 s.drop).bind fun _ _ => .out
  | d + 1, s => (namedR (d + 1) s.drop).bind fun x s1 => if 3 ≤ nodeK s.ts then histR (nodeK s.ts) x s1 else innerR (nodeR d) (nodeK s.ts) x s1

theorem nodeR_takes : ∀ d s, Takes 1 s (nodeR d s)
  | 0, s => by
    unfold nodeR
    obtain ⟨c, p, e⟩ := namedR_zero s.drop
    rw [e]
    exact Takes.bad _ _ _ _
  | d + 1, s => by
    unfold nodeR
    refine Takes.le_of (Takes.mono (Takes.bind (k := 1) (l := 0) (namedR_takes _ _) fun x s1 _ => ?_) (by omega)) (drop_le s)
    split
    · exact (Takes.bind (mustR_takes _ _ _) fun _ _ _ => Takes.bind (nameR_takes _) fun _ _ _ => Takes.bind (mustR_takes _ _ _) fun _ _ _ => Takes.ok _ _).mono (by omega)
    · exact (Takes.bind (mustR_takes _ _ _) fun _ _ _ => Takes.bind (bodyR_takes (nodeR_takes d) _) fun _ _ _ => Takes.bind (mustR_takes _ _ _) fun _ _ _ => Takes.ok _ _).mono (by omega)
theorem nodeR_out : ∀ d s, nodeR d s ≠ .out
  | 0, s => by
    unfold nodeR
    obtain ⟨c, p, e⟩ := namedR_zero s.drop
    rw [e]
    intro h; cases h
  | d + 1, s => by
    unfold nodeR
    refine Rs.notOut (namedR_out _ _) fun x s1 _ => ?_
    split
    · exact Rs.notOut (mustR_out _ _ _) fun _ _ _ => Rs.notOut (nameR_out _) fun _ _ _ => Rs.notOut (mustR_out _ _ _) fun _ _ _ h => by cases h
    · exact Rs.notOut (mustR_out _ _ _) fun _ _ _ => Rs.notOut (bodyR_out (nodeR_takes d) (nodeR_out d) _) fun _ _ _ => Rs.notOut (mustR_out _ _ _) fun _ _ _ h => by cases h

/-- A variable's name, for which there must be room. -/
def vnameR (k : Nat) (s : Ss) : Rs (List UInt8 × Int) := match s.ts with
  | [] => .bad 0 0
  | t :: r => if t.kind = 1 then (if k = 16 then .bad 2 t.at_ else .ok (t.text, t.at_) ⟨r, s.n, s.m, s.a⟩) else wrongR (t :: r)
def vnumR (s : Ss) : Rs Int := if isAt 4 [45] s.ts = true then (numR s.drop).bind fun x s => .ok (-x) s else numR s
def varS (l : List SyVar) (s : Ss) : Rs (List SyVar × Bool) :=
  if isAt 2 wVar s.ts = true then (vnameR l.length s.drop).bind fun x s1 => (mustR 4 [61] s1).bind fun _ s2 => (vnumR s2).bind fun v s3 => (mustR 4 [59] s3).bind fun _ s4 => .ok (l ++ [⟨x.1, v, x.2⟩], true) s4
  else .ok (l, false) s

theorem vnameR_takes (k : Nat) (s : Ss) : Takes 1 s (vnameR k s) := by
  unfold vnameR
  split
  · exact Takes.bad _ _ _ _
  · rename_i t r hs
    split
    · split
      · exact Takes.bad _ _ _ _
      · exact .next (k := 0) hs (.ok _ _)
    · exact wrongR_takes _ _ _
theorem vnameR_out (k : Nat) (s : Ss) : vnameR k s ≠ .out := by
  unfold vnameR
  split
  · intro h; cases h
  · split
    · split <;> (intro h; cases h)
    · exact wrongR_out _
theorem vnumR_takes (s : Ss) : Takes 1 s (vnumR s) := by
  unfold vnumR
  split
  · exact ((Takes.bind (numR_takes _) fun _ _ _ => Takes.ok _ _).mono (by omega)).dropped
  · exact numR_takes s
theorem vnumR_out (s : Ss) : vnumR s ≠ .out := by
  unfold vnumR
  split
  · exact Rs.notOut (numR_out _) fun _ _ _ h => by cases h
  · exact numR_out s
theorem varS_steps (l : List SyVar) (s : Ss) : Steps s (varS l s) := by
  unfold varS
  split
  · exact .of (((Takes.bind (vnameR_takes _ _) fun _ _ _ => Takes.bind (mustR_takes _ _ _) fun _ _ _ => Takes.bind (vnumR_takes _) fun _ _ _ => Takes.bind (mustR_takes _ _ _) fun _ _ _ => Takes.ok _ _).mono (by omega)).dropped)
  · exact .stop _ _
theorem varS_out (l : List SyVar) (s : Ss) : varS l s ≠ .out := by
  unfold varS
  split
  · exact Rs.notOut (vnameR_out _ _) fun _ _ _ => Rs.notOut (mustR_out _ _ _) fun _ _ _ => Rs.notOut (vnumR_out _) fun _ _ _ => Rs.notOut (mustR_out _ _ _) fun _ _ _ h => by cases h
  · intro h; cases h
theorem varS_goes : Goes varS := goes_of varS_steps
/-- The chart. -/
def endR (c : SyChart) (s : Ss) : Rs SyChart := if kindOf s.ts = 5 then .ok c s else wrongR s.ts
def chartR (s : Ss) : Rs SyChart :=
  (mustR 2 wChart s).bind fun _ s1 => (namedR 12 s1).bind fun x s2 => (mustR 4 [123] s2).bind fun _ s3 => (It varS [] s3).bind fun l s4 =>
    (bodyR (nodeR 11) s4).bind fun z s5 => (mustR 4 [125] s5).bind fun _ s6 => endR ⟨l, nodeOf 1 x z⟩ s6
def syR (ts : List Tk) : Rs SyChart := chartR ⟨ts, 0, 0, 0⟩

theorem endR_out (c : SyChart) (s : Ss) : endR c s ≠ .out := by
  unfold endR
  split
  · intro h; cases h
  · exact wrongR_out _
theorem syR_out (ts : List Tk) : syR ts ≠ .out :=
  Rs.notOut (mustR_out _ _ _) fun _ _ _ => Rs.notOut (namedR_out _ _) fun _ _ _ => Rs.notOut (mustR_out _ _ _) fun _ _ _ => Rs.notOut (It_out varS_goes varS_out _ _) fun _ _ _ =>
    Rs.notOut (bodyR_out (nodeR_takes 11) (nodeR_out 11) _) fun _ _ _ => Rs.notOut (mustR_out _ _ _) fun _ _ _ => endR_out _ _

def Ss.er (s : Ss) : Ss := ⟨s.ts.map Tk.er, s.n, s.m, s.a⟩
def Rs.er {α : Type} (f : α → α) : Rs α → Rs α
  | .out => .out
  | .bad c _ => .bad c 0
  | .ok x s => .ok (f x) s.er

theorem er_bind {α β : Type} {f : α → α} {h : β → β} {e' e : Rs α} {g g' : α → Ss → Rs β} (he : e' = e.er f) (hg : ∀ x s, g' (f x) s.er = (g x s).er h) : e'.bind g' = (e.bind g).er h := by
  subst he
  cases e with
  | out => rfl
  | bad c p => rfl
  | ok x s => exact hg x s

def pairE {σ : Type} (f : σ → σ) (y : σ × Bool) : σ × Bool := (f y.1, y.2)
theorem itF_er {σ : Type} {stp : σ → Ss → Rs (σ × Bool)} {f : σ → σ} (h : ∀ x s, stp (f x) s.er = (stp x s).er (pairE f)) : ∀ k x s, itF stp k (f x) s.er = (itF stp k x s).er f
  | 0, _, _ => rfl
  | k + 1, x, s => by
    rw [itF, itF]
    refine er_bind (h x s) fun y s' => ?_
    show (if y.2 = true then _ else _) = _
    split
    · exact itF_er h k _ _
    · rfl
theorem It_er {σ : Type} {stp : σ → Ss → Rs (σ × Bool)} {f : σ → σ} (h : ∀ x s, stp (f x) s.er = (stp x s).er (pairE f)) (x : σ) (s : Ss) : It stp (f x) s.er = (It stp x s).er f := by
  have := itF_er h (s.ts.length + 1) x s
  unfold It
  rw [← this]
  show itF stp ((s.ts.map Tk.er).length + 1) _ _ = _
  rw [List.length_map]

def SyVar.er (v : SyVar) : SyVar := ⟨v.name, v.num, 0⟩
def SyAct.er (x : SyAct) : SyAct := ⟨x.kind, x.name, x.value.map Ex.er, 0⟩
def SyMove.er (x : SyMove) : SyMove := ⟨x.kind, x.event, x.wait, x.guarded, x.guard.map Ex.er, x.acts.map SyAct.er, x.targets, 0⟩
mutual
def SyNode.er : SyNode → SyNode
  | .mk k n i d e l m kids _ => .mk k n i d (e.map SyAct.er) (l.map SyAct.er) (m.map SyMove.er) (SyNode.ers kids) 0
def SyNode.ers : List SyNode → List SyNode
  | [] => []
  | x :: l => x.er :: SyNode.ers l
end
theorem ers_map : ∀ l : List SyNode, SyNode.ers l = l.map SyNode.er
  | [] => by rw [SyNode.ers]; rfl
  | x :: l => by rw [SyNode.ers, ers_map l]; rfl
def SyChart.er (c : SyChart) : SyChart := ⟨c.vars.map SyVar.er, c.root.er⟩
def SyB.er (b : SyB) : SyB := ⟨b.initial, b.enter.map SyAct.er, b.leave.map SyAct.er, b.moves.map SyMove.er, b.hi, b.he, b.hl⟩
def nmE (x : List UInt8 × Int) : List UInt8 × Int := (x.1, 0)

theorem isAt_er (k : Int) (u : List UInt8) (ts : List Tk) : isAt k u (ts.map Tk.er) = isAt k u ts := by
  cases ts with
  | nil => rfl
  | cons t r => rfl
theorem isAt_erS (k : Int) (u : List UInt8) (s : Ss) : isAt k u s.er.ts = isAt k u s.ts := isAt_er k u s.ts
theorem kindOf_er (s : Ss) : kindOf s.er.ts = kindOf s.ts := by
  show kindOf (s.ts.map Tk.er) = _
  cases s.ts with
  | nil => rfl
  | cons t r => rfl
theorem atOf_er (s : Ss) : atOf s.er.ts = 0 := by
  show atOf (s.ts.map Tk.er) = _
  cases s.ts with
  | nil => rfl
  | cons t r => rfl
theorem wordAt_er (s : Ss) : ∀ (l : List (List UInt8)) (i : Nat), wordAt s.er.ts l i = wordAt s.ts l i
  | [], _ => rfl
  | u :: l, i => by rw [wordAt, wordAt, isAt_erS, wordAt_er s l]
theorem actK_er (s : Ss) : actK s.er.ts = actK s.ts := wordAt_er s _ _
theorem moveK_er (s : Ss) : moveK s.er.ts = moveK s.ts := wordAt_er s _ _
theorem nodeK_er (s : Ss) : nodeK s.er.ts = nodeK s.ts := wordAt_er s _ _
theorem wrongR_er {α : Type} (f : α → α) (s : Ss) : (wrongR s.er.ts : Rs α) = (wrongR s.ts).er f := by
  show wrongR (s.ts.map Tk.er) = _
  cases s.ts with
  | nil => rfl
  | cons t r =>
    rw [List.map_cons, wrongR_cons, wrongR_cons]
    show (if t.kind = 5 then Rs.bad 3 0 else Rs.bad 4 0) = _
    split <;> rfl
theorem stopR_er {α : Type} (f : α → α) (c : Int) (s : Ss) : (stopR c s.er.ts : Rs α) = (stopR c s.ts).er f := by
  show stopR c (s.ts.map Tk.er) = _
  cases s.ts with
  | nil => rfl
  | cons t r => rfl
theorem drop_er (s : Ss) : s.er.drop = s.drop.er := by
  show Ss.mk (s.ts.map Tk.er).tail _ _ _ = Ss.mk (s.ts.tail.map Tk.er) _ _ _
  rw [List.map_tail]
  rfl

theorem mustR_er (k : Int) (u : List UInt8) (s : Ss) : mustR k u s.er = (mustR k u s).er id := by
  unfold mustR
  rw [isAt_erS]
  split
  · rw [drop_er]; rfl
  · exact wrongR_er _ s
theorem nameR_er (s : Ss) : nameR s.er = (nameR s).er nmE := by
  obtain ⟨ts, n, m, a⟩ := s
  cases ts with
  | nil => rfl
  | cons t r =>
    have h := wrongR_er nmE ⟨t :: r, n, m, a⟩
    show (if t.kind = 1 then Rs.ok (t.text, 0) ⟨r.map Tk.er, n, m, a⟩ else wrongR ((t :: r).map Tk.er)) = (if t.kind = 1 then Rs.ok (t.text, t.at_) ⟨r, n, m, a⟩ else wrongR (t :: r)).er nmE
    split
    · rfl
    · exact h
theorem numR_er (s : Ss) : numR s.er = (numR s).er id := by
  obtain ⟨ts, n, m, a⟩ := s
  cases ts with
  | nil => rfl
  | cons t r =>
    have h := wrongR_er (id : Int → Int) ⟨t :: r, n, m, a⟩
    show (if t.kind = 3 then Rs.ok t.num ⟨r.map Tk.er, n, m, a⟩ else wrongR ((t :: r).map Tk.er)) = (if t.kind = 3 then Rs.ok t.num ⟨r, n, m, a⟩ else wrongR (t :: r)).er id
    split
    · rfl
    · exact h
theorem exprR_er (s : Ss) : exprR s.er = (exprR s).er Ex.er := by
  unfold exprR
  have h : Pf 0 0 s.er.ts = (Pf 0 0 s.ts).er := Pf_er 0 0 s.ts
  rw [h]
  cases Pf 0 0 s.ts <;> rfl
theorem actV_er (k : Nat) (s : Ss) : actV k s.er = (actV k s).er (Option.map Ex.er) := by
  unfold actV
  split
  · rfl
  · exact er_bind (mustR_er _ _ s) fun _ s1 => er_bind (exprR_er s1) fun _ _ => rfl
theorem tail_er (s : Ss) (n m a : Nat) : Ss.mk s.er.ts.tail n m a = (Ss.mk s.ts.tail n m a).er := by
  show Ss.mk (s.ts.map Tk.er).tail _ _ _ = Ss.mk (s.ts.tail.map Tk.er) _ _ _
  rw [List.map_tail]
theorem actR_er (s : Ss) : actR s.er = (actR s).er SyAct.er := by
  unfold actR
  rw [actK_er, atOf_er]
  split
  · exact wrongR_er _ s
  · show (if s.a = 400 then _ else _) = _
    split
    · exact stopR_er _ _ s
    · rw [tail_er]
      exact er_bind (nameR_er _) fun _ _ => er_bind (actV_er _ _) fun _ _ => er_bind (mustR_er _ _ _) fun _ _ => rfl
theorem blkS_er (l : List SyAct) (s : Ss) : blkS (l.map SyAct.er) s.er = (blkS l s).er (pairE (List.map SyAct.er)) := by
  unfold blkS
  rw [isAt_erS]
  split
  · rw [drop_er]; rfl
  · refine er_bind (actR_er s) fun x s' => ?_
    show _ = Rs.ok ((l ++ [x]).map SyAct.er, true) s'.er
    rw [List.map_append]
    rfl
theorem blockR_er (s : Ss) : blockR s.er = (blockR s).er (List.map SyAct.er) := er_bind (mustR_er _ _ s) fun _ s1 => It_er blkS_er [] s1
theorem evR_er (k : Nat) (s : Ss) : evR k s.er = (evR k s).er id := by
  unfold evR
  split
  · exact er_bind (nameR_er s) fun _ _ => rfl
  · rfl
theorem waitR_er (k : Nat) (s : Ss) : waitR k s.er = (waitR k s).er id := by
  unfold waitR
  split
  · exact numR_er s
  · rfl
theorem guardR_er (s : Ss) : guardR s.er = (guardR s).er (Option.map Ex.er) := by
  unfold guardR
  rw [isAt_erS]
  split
  · rw [drop_er]
    exact er_bind (exprR_er _) fun _ _ => er_bind (mustR_er _ _ _) fun _ _ => rfl
  · rfl
theorem actsR_er (s : Ss) : actsR s.er = (actsR s).er (List.map SyAct.er) := by
  unfold actsR
  rw [isAt_erS]
  split
  · exact blockR_er s
  · rfl
theorem tgtS_er (l : List (List UInt8)) (s : Ss) : tgtS (id l) s.er = (tgtS l s).er (pairE id) := by
  refine er_bind (nameR_er s) fun x s1 => ?_
  rw [isAt_erS]
  split
  · rw [drop_er]; rfl
  · rfl
theorem tgtR_er (s : Ss) : tgtR s.er = (tgtR s).er id := by
  unfold tgtR
  rw [isAt_erS]
  split
  · rw [drop_er]
    exact It_er tgtS_er [] s.drop
  · rfl
theorem isSome_map (g : Option Ex) : (g.map Ex.er).isSome = g.isSome := by cases g <;> rfl
theorem moveR_er (s : Ss) : moveR s.er = (moveR s).er SyMove.er := by
  unfold moveR
  rw [moveK_er, atOf_er]
  show (if s.m = 200 then _ else _) = _
  split
  · exact stopR_er _ _ s
  · rw [tail_er]
    refine er_bind (evR_er _ _) fun e s1 => er_bind (waitR_er _ _) fun w s2 => er_bind (guardR_er _) fun g s3 => er_bind (actsR_er _) fun l s4 => er_bind (tgtR_er _) fun q s5 => er_bind (mustR_er _ _ _) fun _ s6 => ?_
    rw [isSome_map]
    rfl

theorem clauseS_er (b : SyB) (s : Ss) : clauseS b.er s.er = (clauseS b s).er (pairE SyB.er) := by
  unfold clauseS
  rw [isAt_erS, isAt_erS, isAt_erS]
  split
  · unfold initS
    show (if b.hi = true then _ else _) = _
    split
    · exact wrongR_er _ s
    · rw [drop_er]
      exact er_bind (nameR_er _) fun _ _ => er_bind (mustR_er _ _ _) fun _ _ => rfl
  · split
    · unfold enterS
      show (if b.he = true then _ else _) = _
      split
      · exact wrongR_er _ s
      · rw [drop_er]
        exact er_bind (blockR_er _) fun _ _ => rfl
    · split
      · unfold leaveS
        show (if b.hl = true then _ else _) = _
        split
        · exact wrongR_er _ s
        · rw [drop_er]
          exact er_bind (blockR_er _) fun _ _ => rfl
      · unfold movS
        rw [moveK_er]
        split
        · rfl
        · refine er_bind (moveR_er s) fun x s1 => ?_
          show _ = Rs.ok (SyB.er ⟨b.initial, b.enter, b.leave, b.moves ++ [x], b.hi, b.he, b.hl⟩, true) s1.er
          unfold SyB.er
          rw [List.map_append]
          rfl
theorem kidS_er {nd : Ss → Rs SyNode} (h : ∀ s, nd s.er = (nd s).er SyNode.er) (l : List SyNode) (s : Ss) : kidS nd (l.map SyNode.er) s.er = (kidS nd l s).er (pairE (List.map SyNode.er)) := by
  unfold kidS
  rw [nodeK_er]
  split
  · rfl
  · refine er_bind (h s) fun x s1 => ?_
    show _ = Rs.ok ((l ++ [x]).map SyNode.er, true) s1.er
    rw [List.map_append]
    rfl
def bdE (z : SyB × List SyNode) : SyB × List SyNode := (z.1.er, z.2.map SyNode.er)
theorem bodyR_er {nd : Ss → Rs SyNode} (h : ∀ s, nd s.er = (nd s).er SyNode.er) (s : Ss) : bodyR nd s.er = (bodyR nd s).er bdE :=
  er_bind (It_er clauseS_er SyB.none s) fun _ s1 => er_bind (It_er (kidS_er h) [] s1) fun _ _ => rfl
theorem namedR_er (d : Nat) (s : Ss) : namedR d s.er = (namedR d s).er nmE := by
  obtain ⟨ts, n, m, a⟩ := s
  cases ts with
  | nil => rfl
  | cons t r =>
    have h := wrongR_er nmE ⟨t :: r, n, m, a⟩
    show (if t.kind = 1 then (if n = 64 then Rs.bad 2 0 else if d = 0 then .bad 21 0 else Rs.ok (t.text, 0) ⟨r.map Tk.er, n + 1, m, a⟩) else wrongR ((t :: r).map Tk.er)) = (if t.kind = 1 then (if n = 64 then Rs.bad 2 t.at_ else if d = 0 then .bad 21 t.at_ else Rs.ok (t.text, t.at_) ⟨r, n + 1, m, a⟩) else wrongR (t :: r)).er nmE
    split
    · split
      · rfl
      · split <;> rfl
    · exact h
theorem nodeOf_er (k : Nat) (x : List UInt8 × Int) (z : SyB × List SyNode) : nodeOf k (nmE x) (bdE z) = (nodeOf k x z).er := by
  unfold nodeOf
  rw [SyNode.er, ers_map]
  rfl
theorem nodeR_er : ∀ d s, nodeR d s.er = (nodeR d s).er SyNode.er
  | 0, s => by
    unfold nodeR
    rw [drop_er]
    exact er_bind (namedR_er _ _) fun _ _ => rfl
  | d + 1, s => by
    unfold nodeR
    rw [drop_er, nodeK_er]
    refine er_bind (namedR_er _ _) fun x s1 => ?_
    split
    · refine er_bind (mustR_er _ _ _) fun _ _ => er_bind (nameR_er _) fun _ _ => er_bind (mustR_er _ _ _) fun _ _ => ?_
      rw [Rs.er, SyNode.er, ers_map]
      rfl
    · refine er_bind (mustR_er _ _ _) fun _ _ => er_bind (bodyR_er (nodeR_er d) _) fun _ _ => er_bind (mustR_er _ _ _) fun _ _ => ?_
      rw [nodeOf_er]
      rfl
theorem vnameR_er (k : Nat) (s : Ss) : vnameR k s.er = (vnameR k s).er nmE := by
  obtain ⟨ts, n, m, a⟩ := s
  cases ts with
  | nil => rfl
  | cons t r =>
    have h := wrongR_er nmE ⟨t :: r, n, m, a⟩
    show (if t.kind = 1 then (if k = 16 then Rs.bad 2 0 else Rs.ok (t.text, 0) ⟨r.map Tk.er, n, m, a⟩) else wrongR ((t :: r).map Tk.er)) = (if t.kind = 1 then (if k = 16 then Rs.bad 2 t.at_ else Rs.ok (t.text, t.at_) ⟨r, n, m, a⟩) else wrongR (t :: r)).er nmE
    split
    · split <;> rfl
    · exact h
theorem vnumR_er (s : Ss) : vnumR s.er = (vnumR s).er id := by
  unfold vnumR
  rw [isAt_erS]
  split
  · rw [drop_er]
    exact er_bind (numR_er _) fun _ _ => rfl
  · exact numR_er s
theorem varS_er (l : List SyVar) (s : Ss) : varS (l.map SyVar.er) s.er = (varS l s).er (pairE (List.map SyVar.er)) := by
  unfold varS
  rw [isAt_erS, List.length_map]
  split
  · rw [drop_er]
    refine er_bind (vnameR_er _ _) fun x _ => er_bind (mustR_er _ _ _) fun _ _ => er_bind (vnumR_er _) fun v _ => er_bind (mustR_er _ _ _) fun _ s4 => ?_
    show _ = Rs.ok ((l ++ [SyVar.mk x.1 v x.2]).map SyVar.er, true) s4.er
    rw [List.map_append]
    rfl
  · rfl
theorem chartR_er (s : Ss) : chartR s.er = (chartR s).er SyChart.er := by
  unfold chartR
  refine er_bind (mustR_er _ _ _) fun _ _ => er_bind (namedR_er _ _) fun x _ => er_bind (mustR_er _ _ _) fun _ s3 => er_bind (It_er varS_er [] s3) fun l _ => er_bind (bodyR_er (nodeR_er 11) _) fun z _ => er_bind (mustR_er _ _ _) fun _ s6 => ?_
  unfold endR
  rw [kindOf_er]
  split
  · rw [nodeOf_er]
    rfl
  · exact wrongR_er _ s6
theorem syR_er (ts : List Tk) : syR (ts.map Tk.er) = (syR ts).er SyChart.er := chartR_er ⟨ts, 0, 0, 0⟩

/-- A token that an expression may have: no word but 'in'. -/
def XTk (t : Tk) : Prop := t.kind = 2 → t.text = [105, 110]
theorem xTk_sg {t : Tk} {u : List UInt8} (h : isSg t u = true) : XTk t := fun h2 => by
  unfold isSg at h
  rw [Bool.and_eq_true, decide_eq_true_eq] at h
  omega
theorem xTk_op {k : Nat} {t : Tk} {r : List Tk} (h : ¬ opAt k (t :: r) = 0) : XTk t := by
  rw [opAt_cons] at h
  split at h
  · rename_i o e
    have e1 := List.find?_some (p := fun o : List UInt8 × Int => isSg t o.1) e
    exact xTk_sg (u := o.1) e1
  · exact absurd rfl h

/-- What an expression takes. -/
theorem p_wds : ∀ f,
    (∀ k d ts x r, pFrom f k d ts = .ok x r → ∃ u, ts = u ++ r ∧ ∀ t ∈ u, XTk t) ∧
    (∀ k d y ts x r, pMore f k d y ts = .ok x r → ∃ u, ts = u ++ r ∧ ∀ t ∈ u, XTk t) ∧
    (∀ d ts x r, pOne f d ts = .ok x r → ∃ u, ts = u ++ r ∧ ∀ t ∈ u, XTk t)
  | 0 => ⟨fun _ _ _ _ _ h => by simp [pFrom] at h, fun _ _ _ _ _ _ h => by simp [pMore] at h, fun _ _ _ _ h => by simp [pOne] at h⟩
  | f + 1 => by
    obtain ⟨h1, h2, h3⟩ := p_wds f
    have two : ∀ {u v : List Tk}, (∀ t ∈ u, XTk t) → (∀ t ∈ v, XTk t) → ∀ t ∈ u ++ v, XTk t := fun a b t h => by
      rcases List.mem_append.1 h with h | h
      · exact a t h
      · exact b t h
    have one : ∀ {t : Tk} {u : List Tk}, XTk t → (∀ t ∈ u, XTk t) → ∀ z ∈ t :: u, XTk z := fun a b t h => by
      rcases List.mem_cons.1 h with h | h
      · rw [h]; exact a
      · exact b t h
    have none : ∀ t ∈ ([] : List Tk), XTk t := fun t h => by cases h
    refine ⟨fun k d ts x r h => ?_, fun k d y ts x r h => ?_, fun d ts x r h => ?_⟩
    · rw [pFrom_succ] at h
      split at h
      · exact h3 _ _ _ _ h
      · obtain ⟨z, v, e, hh⟩ := PR.andThen_ok h
        clear h
        obtain ⟨u1, rfl, k1⟩ := h1 _ _ _ _ _ e
        obtain ⟨u2, rfl, k2⟩ := h2 _ _ _ _ _ _ hh
        exact ⟨u1 ++ u2, by simp, two k1 k2⟩
    · rw [pMore_succ] at h
      split at h
      · injection h with _ h
        exact ⟨[], by rw [h]; rfl, none⟩
      · rename_i h0
        obtain ⟨t, u, rfl⟩ := opAt_some h0
        rw [List.tail_cons] at h
        obtain ⟨z, v, e, hh⟩ := PR.andThen_ok h
        clear h
        obtain ⟨u1, rfl, k1⟩ := h1 _ _ _ _ _ e
        obtain ⟨u2, rfl, k2⟩ := h2 _ _ _ _ _ _ hh
        exact ⟨t :: (u1 ++ u2), by simp, one (xTk_op h0) (two k1 k2)⟩
    · cases ts with
      | nil => rw [pOne_nil] at h; cases h
      | cons t ts =>
        rw [pOne_cons] at h
        split at h
        · rename_i hs
          have ht : XTk t := by rcases hs with hs | hs <;> exact xTk_sg hs
          split at h
          · cases h
          · obtain ⟨z, v, e, h⟩ := PR.andThen_ok h
            injection h with _ h
            subst h
            obtain ⟨u, rfl, k⟩ := h3 _ _ _ _ e
            exact ⟨t :: u, rfl, one ht k⟩
        · split at h
          · rename_i hs
            split at h
            · cases h
            · obtain ⟨z, v, e, h⟩ := PR.andThen_ok h
              obtain ⟨t', rfl, k', _⟩ := shutP_some h
              obtain ⟨u, rfl, k⟩ := h1 _ _ _ _ _ e
              exact ⟨t :: (u ++ [t']), by simp, one (xTk_sg hs) (two k (one (xTk_sg k') none))⟩
          · split at h
            · rename_i hk
              injection h with _ h
              subst h
              exact ⟨[t], rfl, one (fun h2 => by omega) none⟩
            · split at h
              · rename_i hk
                injection h with _ h
                subst h
                exact ⟨[t], rfl, one (fun h2 => by omega) none⟩
              · split at h
                · rename_i hk
                  obtain ⟨t1, t2, t3, rfl, k1, k2, k3, _⟩ := innP_some h
                  exact ⟨[t, t1, t2, t3], rfl, one (fun _ => hk.2) (one (xTk_sg k1) (one (fun h2 => by omega) (one (xTk_sg k3) none)))⟩
                · exact absurd h wrongAt_not
theorem Pf_uses {k d : Nat} {ts : List Tk} {x : Ex} {r : List Tk} (h : Pf k d ts = .ok x r) : ∃ u, ts = u ++ r ∧ ∀ t ∈ u, XTk t := (p_wds _).1 _ _ _ _ _ h

/-- Tokens without places. -/
def tW (u : List UInt8) : Tk := ⟨2, u, 0, 0⟩
def tN (u : List UInt8) : Tk := ⟨1, u, 0, 0⟩
def tS (u : List UInt8) : Tk := ⟨4, u, 0, 0⟩
def goN : List UInt8 := [103, 111]
def xN : List UInt8 := [120]
def mvT (T : List Tk) : List Tk := tS [45, 62] :: tN xN :: tS [59] :: T
/-- The two ways: an empty block of the node, or of the move. -/
def eA (T : List Tk) : List Tk := tW wEnter :: tS [123] :: tS [125] :: tW wOn :: tN goN :: mvT T
def eB (T : List Tk) : List Tk := tW wOn :: tN goN :: tS [123] :: tS [125] :: mvT T

/-- Two states that stand ahead of the two ways. -/
def Lk (T : List Tk) (s s' : Ss) : Prop := ∃ H, s.ts = H ++ eA T ∧ s'.ts = H ++ eB T ∧ s'.n = s.n ∧ s'.m = s.m ∧ s'.a = s.a
def Sim {α : Type} (T : List Tk) (e e' : Rs α) : Prop := ∀ x s x' s', e = .ok x s → e' = .ok x' s' → x' = x ∧ (s' = s ∨ Lk T s s')

theorem Sim.refl {α : Type} {T : List Tk} (e : Rs α) : Sim T e e := fun x s x' s' h h' => by
  rw [h] at h'
  injection h' with h1 h2
  exact ⟨h1.symm, .inl h2.symm⟩
theorem Sim.bad {α : Type} {T : List Tk} {e e' : Rs α} (h : ∃ c p, e = .bad c p) : Sim T e e' := fun x s x' s' h1 _ => by
  obtain ⟨c, p, h⟩ := h
  rw [h] at h1
  cases h1
theorem Sim.ok {α : Type} {T : List Tk} (x : α) {s s' : Ss} (h : Lk T s s') : Sim T (.ok x s) (.ok x s') := fun y r y' r' h1 h2 => by
  injection h1 with a1 a2
  injection h2 with b1 b2
  subst a1 a2 b2
  exact ⟨b1.symm, .inr h⟩
theorem Sim.bind {α β : Type} {T : List Tk} {e e' : Rs α} {g g' : α → Ss → Rs β} (h : Sim T e e') (hg : ∀ x s s', Lk T s s' → Sim T (g x s) (g' x s')) (he : ∀ x s, Sim T (g x s) (g' x s)) : Sim T (e.bind g) (e'.bind g') := fun y r y' r' h1 h2 => by
  obtain ⟨x, s, a1, a2⟩ := Rs.some h1
  obtain ⟨x', s', b1, b2⟩ := Rs.some h2
  obtain ⟨rfl, hs⟩ := h _ _ _ _ a1 b1
  rcases hs with rfl | hs
  · exact he _ _ _ _ _ _ a2 b2
  · exact hg _ _ _ hs _ _ _ _ a2 b2
theorem Sim.bind' {α β : Type} {T : List Tk} {e e' : Rs α} {g : α → Ss → Rs β} (h : Sim T e e') (hg : ∀ x s s', Lk T s s' → Sim T (g x s) (g x s')) : Sim T (e.bind g) (e'.bind g) := h.bind hg fun _ _ => .refl _

theorem wrong_bad {α : Type} (ts : List Tk) : ∃ c p, (wrongR ts : Rs α) = .bad c p := by
  cases ts with
  | nil => exact ⟨_, _, rfl⟩
  | cons t r => rw [wrongR_cons]; split <;> exact ⟨_, _, rfl⟩
theorem stop_bad {α : Type} (c : Int) (ts : List Tk) : ∃ c' p, (stopR c ts : Rs α) = .bad c' p := by
  cases ts with
  | nil => exact ⟨_, _, rfl⟩
  | cons t r => exact ⟨_, _, rfl⟩

/-- Ahead, or there. -/
theorem Lk.ways {T : List Tk} {s s' : Ss} (h : Lk T s s') : (s.ts = eA T ∧ s'.ts = eB T) ∨ ∃ t H, s.ts = t :: (H ++ eA T) ∧ s'.ts = t :: (H ++ eB T) := by
  obtain ⟨H, h1, h2, _⟩ := h
  cases H with
  | nil => exact .inl ⟨h1, h2⟩
  | cons t H => exact .inr ⟨t, H, h1, h2⟩
theorem Lk.next {T : List Tk} {s s' : Ss} (h : Lk T s s') {t : Tk} {H : List Tk} (h1 : s.ts = t :: (H ++ eA T)) (h2 : s'.ts = t :: (H ++ eB T)) (n m a : Nat → Nat) :
    Lk T ⟨s.ts.tail, n s.n, m s.m, a s.a⟩ ⟨s'.ts.tail, n s'.n, m s'.m, a s'.a⟩ := by
  obtain ⟨_, _, _, hn, hm, ha⟩ := h
  exact ⟨H, by rw [h1]; rfl, by rw [h2]; rfl, by rw [hn], by rw [hm], by rw [ha]⟩
theorem Lk.drop {T : List Tk} {s s' : Ss} (h : Lk T s s') {t : Tk} {H : List Tk} (h1 : s.ts = t :: (H ++ eA T)) (h2 : s'.ts = t :: (H ++ eB T)) : Lk T s.drop s'.drop := h.next h1 h2 id id id

/-- Words and signs that the two ways do not begin with. -/
def Plain (k : Int) (u : List UInt8) : Prop := isTk k u (tW wEnter) = false ∧ isTk k u (tW wOn) = false
instance (k : Int) (u : List UInt8) : Decidable (Plain k u) := inferInstanceAs (Decidable (_ ∧ _))
theorem plain4 (u : List UInt8) : Plain 4 u := ⟨rfl, rfl⟩
theorem isAt_lk {T : List Tk} {s s' : Ss} (h : Lk T s s') {k : Int} {u : List UInt8} (hp : Plain k u) : isAt k u s'.ts = isAt k u s.ts ∧ (isAt k u s.ts = true → Lk T s.drop s'.drop) := by
  rcases h.ways with ⟨h1, h2⟩ | ⟨t, H, h1, h2⟩
  · rw [h1, h2]
    have a1 : isAt k u (eA T) = false := hp.1
    have a2 : isAt k u (eB T) = false := hp.2
    rw [a1, a2]
    exact ⟨rfl, fun h => by cases h⟩
  · rw [h1, h2]
    exact ⟨rfl, fun _ => h.drop h1 h2⟩
theorem wordAt_lk {T : List Tk} {s s' : Ss} (h : Lk T s s') : ∀ {l : List (List UInt8)} {i : Nat} (_ : ∀ u ∈ l, Plain 2 u), wordAt s'.ts l i = wordAt s.ts l i ∧ (wordAt s.ts l i ≠ 0 → ∃ t H, s.ts = t :: (H ++ eA T) ∧ s'.ts = t :: (H ++ eB T))
  | [], _, _ => ⟨rfl, fun h => absurd rfl h⟩
  | u :: l, i, hl => by
    obtain ⟨a1, a2⟩ := isAt_lk h (hl u (List.mem_cons_self ..))
    obtain ⟨b1, b2⟩ := wordAt_lk h (l := l) (i := i + 1) fun v hv => hl v (List.mem_cons_of_mem _ hv)
    rw [wordAt, wordAt, a1, b1]
    refine ⟨rfl, fun h0 => ?_⟩
    split at h0
    · rename_i ha
      rcases h.ways with ⟨h1, h2⟩ | hw
      · rw [h1] at ha
        have : isAt 2 u (eA T) = false := (hl u (List.mem_cons_self ..)).1
        rw [this] at ha
        cases ha
      · exact hw
    · exact b2 h0

theorem mustR_sim {T : List Tk} {s s' : Ss} (h : Lk T s s') {k : Int} {u : List UInt8} (hp : Plain k u) : Sim T (mustR k u s) (mustR k u s') := by
  obtain ⟨a1, a2⟩ := isAt_lk h hp
  unfold mustR
  rw [a1]
  split
  · exact .ok _ (a2 (by assumption))
  · exact .bad (wrong_bad _)
theorem nameR_sim {T : List Tk} {s s' : Ss} (h : Lk T s s') : Sim T (nameR s) (nameR s') := by
  rcases h.ways with ⟨h1, h2⟩ | ⟨t, H, h1, h2⟩
  · refine .bad ?_
    unfold nameR
    rw [h1]
    exact wrong_bad (eA T)
  · have hl := h.next h1 h2 id id id
    unfold nameR
    rw [h1, h2] at hl ⊢
    show Sim T (if t.kind = 1 then _ else _) (if t.kind = 1 then _ else _)
    split
    · exact .ok _ hl
    · exact .bad (wrong_bad _)
theorem numR_sim {T : List Tk} {s s' : Ss} (h : Lk T s s') : Sim T (numR s) (numR s') := by
  rcases h.ways with ⟨h1, h2⟩ | ⟨t, H, h1, h2⟩
  · refine .bad ?_
    unfold numR
    rw [h1]
    exact wrong_bad (eA T)
  · have hl := h.next h1 h2 id id id
    unfold numR
    rw [h1, h2] at hl ⊢
    show Sim T (if t.kind = 3 then _ else _) (if t.kind = 3 then _ else _)
    split
    · exact .ok _ hl
    · exact .bad (wrong_bad _)

theorem prefix_of {u r H A : List Tk} {t : Tk} (h : u ++ r = H ++ t :: A) (ht : ¬ XTk t) (hu : ∀ z ∈ u, XTk z) : ∃ H', H = u ++ H' ∧ r = H' ++ t :: A := by
  rcases List.append_eq_append_iff.1 h with ⟨a, h1, h2⟩ | ⟨c, h1, h2⟩
  · exact ⟨a, h1, h2⟩
  · cases c with
    | nil => exact ⟨[], by rw [h1]; simp, by rw [List.nil_append] at h2 ⊢; exact h2.symm⟩
    | cons z c =>
      rw [List.cons_append] at h2
      injection h2 with h2 _
      exact absurd (hu z (by rw [h1]; simp)) (by rw [← h2]; exact ht)

theorem exprR_sim {T : List Tk} {s s' : Ss} (h : Lk T s s') : Sim T (exprR s) (exprR s') := fun x r x' r' e e' => by
  obtain ⟨H, h1, h2, hn, hm, ha⟩ := h
  unfold exprR at e e'
  rw [h1] at e
  rw [h2] at e'
  split at e
  · cases e
  · cases e
  · rename_i y v hy
    injection e with e1 e2
    subst e1
    obtain ⟨u, k1, k2⟩ := Pf_uses hy
    obtain ⟨hst, u', k3, k4⟩ := Pf_tail (by omega) hy
    obtain rfl : u = u' := by rw [k1] at k3; exact List.append_cancel_right k3
    obtain ⟨H', rfl, rfl⟩ := prefix_of (t := tW wEnter) k1.symm (fun h => by have := h rfl; revert this; decide) k2
    have hB : Stop 0 (H' ++ eB T) := Stop.either (r := eA T) hst fun _ => fun j _ _ => by
      show opAt j (tW wOn :: _) = 0
      rw [opAt_cons]
      have : (rowOps j).find? (fun o => isSg (tW wOn) o.1) = none := List.find?_eq_none.2 fun o _ => by simp [isSg, tW]
      rw [this]
    have hz := k4 _ hB
    rw [List.append_assoc, hz] at e'
    injection e' with e1 e3
    subst e1 e2 e3
    exact ⟨rfl, .inr ⟨H', rfl, rfl, hn, hm, ha⟩⟩

theorem It_sim {σ : Type} {T : List Tk} {stp : σ → Ss → Rs (σ × Bool)} (hg : Goes stp) (h : ∀ x s s', Lk T s s' → Sim T (stp x s) (stp x s')) : ∀ (k : Nat) (x : σ) (s s' : Ss), s.ts.length ≤ k → Lk T s s' → Sim T (It stp x s) (It stp x s')
  | k, x, s, s', hk, hl => fun y r y' r' e e' => by
    rw [It_eq hg] at e e'
    obtain ⟨z, s1, a1, a2⟩ := Rs.some e
    obtain ⟨z', s1', b1, b2⟩ := Rs.some e'
    obtain ⟨rfl, hs⟩ := h x s s' hl _ _ _ _ a1 b1
    split at a2
    · rename_i hz
      rw [if_pos hz] at b2
      rcases hs with rfl | hs
      · rw [a2] at b2
        injection b2 with b1 b2
        exact ⟨b1.symm, .inl b2.symm⟩
      · have := hg x s z'.1 s1 (by rw [a1, ← hz])
        obtain ⟨k, rfl⟩ : ∃ j, k = j + 1 := ⟨k - 1, by omega⟩
        exact It_sim hg h k _ _ _ (by omega) hs _ _ _ _ a2 b2
    · rename_i hz
      rw [if_neg hz] at b2
      injection a2 with a3 a4
      injection b2 with b3 b4
      subst a3 b3 a4 b4
      exact ⟨rfl, hs⟩

theorem actV_sim {T : List Tk} {s s' : Ss} (h : Lk T s s') (k : Nat) : Sim T (actV k s) (actV k s') := by
  unfold actV
  split
  · exact .ok _ h
  · exact (mustR_sim h (plain4 _)).bind' fun _ _ _ h1 => (exprR_sim h1).bind' fun _ _ _ h2 => .ok _ h2
theorem actR_sim {T : List Tk} {s s' : Ss} (h : Lk T s s') : Sim T (actR s) (actR s') := by
  obtain ⟨a1, a2⟩ := wordAt_lk h (l := [wSet, wRaise, wEmit]) (i := 1) (by decide)
  have a1 : actK s'.ts = actK s.ts := a1
  unfold actR
  rw [a1]
  split
  · exact .bad (wrong_bad _)
  · rename_i h0
    obtain ⟨t, H, h1, h2⟩ := a2 h0
    have hl := h.next h1 h2 id id (· + 1)
    have ha : s'.a = s.a := h.choose_spec.2.2.2.2
    have hp : atOf s'.ts = atOf s.ts := by rw [h1, h2]; rfl
    rw [ha, hp]
    rw [ha] at hl
    split
    · exact .bad (stop_bad _ _)
    · exact (nameR_sim hl).bind' fun _ _ _ h1 => (actV_sim h1 _).bind' fun _ _ _ h2 => (mustR_sim h2 (plain4 _)).bind' fun _ _ _ h3 => .ok _ h3
theorem blkS_sim {T : List Tk} (l : List SyAct) (s s' : Ss) (h : Lk T s s') : Sim T (blkS l s) (blkS l s') := by
  obtain ⟨a1, a2⟩ := isAt_lk h (plain4 [125])
  unfold blkS
  rw [a1]
  split
  · exact .ok _ (a2 (by assumption))
  · exact (actR_sim h).bind' fun _ _ _ h1 => .ok _ h1
theorem blockR_sim {T : List Tk} {s s' : Ss} (h : Lk T s s') : Sim T (blockR s) (blockR s') :=
  (mustR_sim h (plain4 _)).bind' fun _ s1 s1' h1 => It_sim blkS_goes blkS_sim _ [] s1 s1' (Nat.le_refl _) h1
theorem evR_sim {T : List Tk} {s s' : Ss} (h : Lk T s s') (k : Nat) : Sim T (evR k s) (evR k s') := by
  unfold evR
  split
  · exact (nameR_sim h).bind' fun _ _ _ h1 => .ok _ h1
  · exact .ok _ h
theorem waitR_sim {T : List Tk} {s s' : Ss} (h : Lk T s s') (k : Nat) : Sim T (waitR k s) (waitR k s') := by
  unfold waitR
  split
  · exact numR_sim h
  · exact .ok _ h
theorem guardR_sim {T : List Tk} {s s' : Ss} (h : Lk T s s') : Sim T (guardR s) (guardR s') := by
  obtain ⟨a1, a2⟩ := isAt_lk h (plain4 [91])
  unfold guardR
  rw [a1]
  split
  · exact (exprR_sim (a2 (by assumption))).bind' fun _ _ _ h1 => (mustR_sim h1 (plain4 _)).bind' fun _ _ _ h2 => .ok _ h2
  · exact .ok _ h
theorem actsR_sim {T : List Tk} {s s' : Ss} (h : Lk T s s') : Sim T (actsR s) (actsR s') := by
  obtain ⟨a1, a2⟩ := isAt_lk h (plain4 [123])
  unfold actsR
  rw [a1]
  split
  · exact blockR_sim h
  · exact .ok _ h
theorem tgtS_sim {T : List Tk} (l : List (List UInt8)) (s s' : Ss) (h : Lk T s s') : Sim T (tgtS l s) (tgtS l s') := by
  refine (nameR_sim h).bind' fun x s1 s1' h1 => ?_
  obtain ⟨a1, a2⟩ := isAt_lk h1 (plain4 [44])
  rw [a1]
  split
  · exact .ok _ (a2 (by assumption))
  · exact .ok _ h1
theorem tgtR_sim {T : List Tk} {s s' : Ss} (h : Lk T s s') : Sim T (tgtR s) (tgtR s') := by
  obtain ⟨a1, a2⟩ := isAt_lk h (plain4 [45, 62])
  unfold tgtR
  rw [a1]
  split
  · exact It_sim tgtS_goes tgtS_sim _ [] _ _ (Nat.le_refl _) (a2 (by assumption))
  · exact .ok _ h
theorem moveR_sim {T : List Tk} {s s' : Ss} (h : Lk T s s') {t : Tk} {H : List Tk} (h1 : s.ts = t :: (H ++ eA T)) (h2 : s'.ts = t :: (H ++ eB T)) : Sim T (moveR s) (moveR s') := by
  have hl := h.next h1 h2 id (· + 1) id
  have hm : s'.m = s.m := h.choose_spec.2.2.2.1
  have hp : atOf s'.ts = atOf s.ts := by rw [h1, h2]; rfl
  have hk : moveK s'.ts = moveK s.ts := by rw [h1, h2]; rfl
  unfold moveR
  rw [hm, hp, hk]
  rw [hm] at hl
  split
  · exact .bad (stop_bad _ _)
  · exact (evR_sim hl _).bind' fun _ _ _ k1 => (waitR_sim k1 _).bind' fun _ _ _ k2 => (guardR_sim k2).bind' fun _ _ _ k3 => (actsR_sim k3).bind' fun _ _ _ k4 => (tgtR_sim k4).bind' fun _ _ _ k5 => (mustR_sim k5 (plain4 _)).bind' fun _ _ _ k6 => .ok _ k6
theorem clauseS_sim {T : List Tk} (b : SyB) {s s' : Ss} (h : Lk T s s') {t : Tk} {H : List Tk} (h1 : s.ts = t :: (H ++ eA T)) (h2 : s'.ts = t :: (H ++ eB T)) : Sim T (clauseS b s) (clauseS b s') := by
  have hl := h.drop h1 h2
  have hw : ∀ u, isAt 2 u s'.ts = isAt 2 u s.ts := fun u => by rw [h1, h2]; rfl
  have hk : moveK s'.ts = moveK s.ts := by rw [h1, h2]; rfl
  unfold clauseS
  rw [hw, hw, hw]
  split
  · unfold initS
    split
    · exact .bad (wrong_bad _)
    · exact (nameR_sim hl).bind' fun _ _ _ k1 => (mustR_sim k1 (plain4 _)).bind' fun _ _ _ k2 => .ok _ k2
  · split
    · unfold enterS
      split
      · exact .bad (wrong_bad _)
      · exact (blockR_sim hl).bind' fun _ _ _ k1 => .ok _ k1
    · split
      · unfold leaveS
        split
        · exact .bad (wrong_bad _)
        · exact (blockR_sim hl).bind' fun _ _ _ k1 => .ok _ k1
      · unfold movS
        rw [hk]
        split
        · exact .ok _ h
        · exact (moveR_sim h h1 h2).bind' fun _ _ _ k1 => .ok _ k1

/-- There: the block, the move. -/
theorem blk_end (l : List SyAct) (R : List Tk) (n m a : Nat) : It blkS l ⟨tS [125] :: R, n, m, a⟩ = .ok l ⟨R, n, m, a⟩ := by
  rw [It_eq blkS_goes]
  rfl
theorem blk_none (R : List Tk) (n m a : Nat) : blockR ⟨tS [123] :: tS [125] :: R, n, m, a⟩ = .ok [] ⟨R, n, m, a⟩ := by
  show It blkS [] ⟨tS [125] :: R, n, m, a⟩ = _
  exact blk_end [] R n m a
theorem tgt_one (T : List Tk) (n m a : Nat) : tgtR ⟨mvT T, n, m, a⟩ = .ok [xN] ⟨tS [59] :: T, n, m, a⟩ := by
  show It tgtS [] ⟨tN xN :: tS [59] :: T, n, m, a⟩ = _
  rw [It_eq tgtS_goes]
  rfl
def goM : SyMove := ⟨1, goN, 0, false, none, [], [xN], 0⟩
theorem moveK_on (R : List Tk) : moveK (tW wOn :: R) = 1 := rfl
theorem move_on {T R : List Tk} {n m a : Nat} (hR : ∀ m, guardR ⟨R, n, m, a⟩ = .ok none ⟨R, n, m, a⟩) (hA : ∀ m, actsR ⟨R, n, m, a⟩ = .ok [] ⟨mvT T, n, m, a⟩) :
    moveR ⟨tW wOn :: tN goN :: R, n, m, a⟩ = if m = 200 then stopR 2 (tW wOn :: tN goN :: R) else .ok goM ⟨T, n, m + 1, a⟩ := by
  unfold moveR
  rw [moveK_on]
  show (if m = 200 then _ else _) = _
  split
  · rfl
  · show (guardR ⟨R, n, m + 1, a⟩).bind _ = _
    rw [hR, Rs.bind_ok, hA, Rs.bind_ok, tgt_one, Rs.bind_ok]
    rfl
theorem clause_on {R : List Tk} {n m a : Nat} (b : SyB) : clauseS b ⟨tW wOn :: R, n, m, a⟩ = (moveR ⟨tW wOn :: R, n, m, a⟩).bind fun x s1 => .ok (⟨b.initial, b.enter, b.leave, b.moves ++ [x], b.hi, b.he, b.hl⟩, true) s1 := rfl
theorem clause_enter (b : SyB) (R : List Tk) (n m a : Nat) : clauseS b ⟨tW wEnter :: R, n, m, a⟩ = enterS b ⟨tW wEnter :: R, n, m, a⟩ := rfl

/-- The same but for what there was. -/
def SyB.eqB (b b' : SyB) : Prop := b'.initial = b.initial ∧ b'.enter = b.enter ∧ b'.leave = b.leave ∧ b'.moves = b.moves
/-- The same but for the clause of the empty block. -/
def offB (b : SyB) : SyB := ⟨b.initial, [], b.leave, b.moves, b.hi, false, b.hl⟩

theorem he_sim : ∀ (k : Nat) (b : SyB) (s : Ss), s.ts.length ≤ k → b.he = true → b.enter = [] → ∀ y r y' r', It clauseS b s = .ok y r → It clauseS (offB b) s = .ok y' r' → y.eqB y' ∧ r' = r
  | k, b, s, hk, h1, h2, y, r, y', r', e, e' => by
    rw [It_eq clauseS_goes] at e e'
    obtain ⟨z, s1, a1, a2⟩ := Rs.some e
    obtain ⟨z', s1', b1, b2⟩ := Rs.some e'
    have key : s1' = s1 ∧ ((z.2 = true ∧ z'.2 = true ∧ z.1.he = true ∧ z.1.enter = [] ∧ z'.1 = offB z.1) ∨ (z.2 = false ∧ z'.2 = false ∧ z.1.eqB z'.1)) := by
      unfold clauseS at a1 b1
      split at a1
      · rename_i c
        rw [if_pos c] at b1
        unfold initS at a1 b1
        split at a1
        · obtain ⟨c, p, ew⟩ := wrong_bad (α := SyB × Bool) s.ts; rw [ew] at a1; cases a1
        · rename_i c
          have c' : ¬ (offB b).hi = true := c
          rw [if_neg c'] at b1
          obtain ⟨x, u, f1, f2⟩ := Rs.some a1
          obtain ⟨x', u', f3, f4⟩ := Rs.some f2
          rw [f1, Rs.bind_ok, f3, Rs.bind_ok] at b1
          injection f4 with f5 f6
          injection b1 with f7 f8
          subst f5 f6 f7 f8
          exact ⟨rfl, .inl ⟨rfl, rfl, h1, h2, rfl⟩⟩
      · rename_i c
        rw [if_neg c] at b1
        split at a1
        · unfold enterS at a1
          rw [if_pos h1] at a1
          obtain ⟨c, p, ew⟩ := wrong_bad (α := SyB × Bool) s.ts
          rw [ew] at a1
          cases a1
        · rename_i c
          rw [if_neg c] at b1
          split at a1
          · rename_i c
            rw [if_pos c] at b1
            unfold leaveS at a1 b1
            split at a1
            · obtain ⟨c, p, ew⟩ := wrong_bad (α := SyB × Bool) s.ts; rw [ew] at a1; cases a1
            · rename_i c
              have c' : ¬ (offB b).hl = true := c
              rw [if_neg c'] at b1
              obtain ⟨x, u, f1, f2⟩ := Rs.some a1
              rw [f1, Rs.bind_ok] at b1
              injection f2 with f5 f6
              injection b1 with f7 f8
              subst f5 f6 f7 f8
              exact ⟨rfl, .inl ⟨rfl, rfl, h1, h2, rfl⟩⟩
          · rename_i c
            rw [if_neg c] at b1
            unfold movS at a1 b1
            split at a1
            · rename_i c
              rw [if_pos c] at b1
              injection a1 with f5 f6
              injection b1 with f7 f8
              subst f5 f6 f7 f8
              exact ⟨rfl, .inr ⟨rfl, rfl, rfl, h2.symm, rfl, rfl⟩⟩
            · rename_i c
              rw [if_neg c] at b1
              obtain ⟨x, u, f1, f2⟩ := Rs.some a1
              rw [f1, Rs.bind_ok] at b1
              injection f2 with f5 f6
              injection b1 with f7 f8
              subst f5 f6 f7 f8
              exact ⟨rfl, .inl ⟨rfl, rfl, h1, h2, rfl⟩⟩
    obtain ⟨rfl, ⟨k1, k2, k3, k4, k5⟩ | ⟨k1, k2, k3⟩⟩ := key
    · rw [if_pos k1] at a2
      rw [if_pos k2, k5] at b2
      have := clauseS_goes b s z.1 s1' (by rw [a1, ← k1])
      obtain ⟨k, rfl⟩ : ∃ j, k = j + 1 := ⟨k - 1, by omega⟩
      exact he_sim k z.1 s1' (by omega) k3 k4 _ _ _ _ a2 b2
    · rw [if_neg (by rw [k1]; decide)] at a2
      rw [if_neg (by rw [k2]; decide)] at b2
      injection a2 with f5 f6
      injection b2 with f7 f8
      subst f5 f6 f7 f8
      exact ⟨k3, rfl⟩

theorem SyB.eqB.rfl (b : SyB) : b.eqB b := ⟨Eq.refl _, Eq.refl _, Eq.refl _, Eq.refl _⟩

/-- The clauses: what was there, and what stands ahead of both. -/
theorem cl_sim {T : List Tk} : ∀ (k : Nat) (b : SyB) (s s' : Ss), s.ts.length ≤ k → Lk T s s' → (b.he = false → b.enter = []) → ∀ y r y' r', It clauseS b s = .ok y r → It clauseS b s' = .ok y' r' → y.eqB y' ∧ (r' = r ∨ Lk T r r')
  | k, b, s, s', hk, hl, hb, y, r, y', r', e, e' => by
    rcases hl.ways with ⟨h1, h2⟩ | ⟨t, H, h1, h2⟩
    · obtain ⟨_, _, _, hn, hm, ha⟩ := hl
      obtain ⟨ts, n, m, a⟩ := s
      obtain ⟨ts', n', m', a'⟩ := s'
      simp only at h1 h2 hn hm ha
      subst h1 h2 hn hm ha
      unfold eA at e
      unfold eB at e'
      rw [It_eq clauseS_goes, clause_enter] at e
      obtain ⟨z, s1, a1, a2⟩ := Rs.some e
      unfold enterS at a1
      split at a1
      · obtain ⟨c, p, ew⟩ := wrong_bad (α := SyB × Bool) (Ss.ts ⟨tW wEnter :: tS [123] :: tS [125] :: tW wOn :: tN goN :: mvT T, n', m', a'⟩)
        rw [ew] at a1
        cases a1
      · rename_i hh
        have hh : b.he = false := by revert hh; cases b.he <;> simp
        have hbe := hb hh
        have hd : (Ss.mk (tW wEnter :: tS [123] :: tS [125] :: tW wOn :: tN goN :: mvT T) n' m' a').drop = ⟨tS [123] :: tS [125] :: tW wOn :: tN goN :: mvT T, n', m', a'⟩ := rfl
        rw [hd, blk_none, Rs.bind_ok] at a1
        injection a1 with a3 a4
        subst a3 a4
        rw [if_pos rfl, It_eq clauseS_goes, clause_on, move_on (T := T) (R := mvT T) (n := n') (a := a') (fun _ => rfl) (fun _ => rfl)] at a2
        rw [It_eq clauseS_goes, clause_on, move_on (T := T) (R := tS [123] :: tS [125] :: mvT T) (n := n') (a := a') (fun _ => rfl) (fun q => (show actsR ⟨tS [123] :: tS [125] :: mvT T, n', q, a'⟩ = blockR ⟨tS [123] :: tS [125] :: mvT T, n', q, a'⟩ from rfl).trans (blk_none (mvT T) n' q a'))] at e'
        split at a2
        · cases a2
        · rename_i h200
          rw [if_neg h200] at e'
          rw [Rs.bind_ok, Rs.bind_ok, if_pos rfl] at a2 e'
          have hoff : (⟨b.initial, b.enter, b.leave, b.moves ++ [goM], b.hi, b.he, b.hl⟩ : SyB) = offB ⟨b.initial, [], b.leave, b.moves ++ [goM], b.hi, true, b.hl⟩ := by
            unfold offB
            rw [hh, hbe]
          rw [hoff] at e'
          obtain ⟨k1, k2⟩ := he_sim _ _ _ (Nat.le_refl _) rfl rfl _ _ _ _ a2 e'
          exact ⟨k1, .inl k2⟩
    · rw [It_eq clauseS_goes] at e e'
      obtain ⟨z, s1, a1, a2⟩ := Rs.some e
      obtain ⟨z', s1', b1, b2⟩ := Rs.some e'
      obtain ⟨rfl, hs⟩ := clauseS_sim b hl h1 h2 _ _ _ _ a1 b1
      split at a2
      · rename_i hz
        rw [if_pos hz] at b2
        rcases hs with rfl | hs
        · rw [a2] at b2
          injection b2 with b1 b2
          subst b1 b2
          exact ⟨.rfl _, .inl rfl⟩
        · have := clauseS_goes b s z'.1 s1 (by rw [a1, ← hz])
          obtain ⟨k, rfl⟩ : ∃ j, k = j + 1 := ⟨k - 1, by omega⟩
          refine cl_sim k _ _ _ (by omega) hs ?_ _ _ _ _ a2 b2
          clear a2 b2 e e' b1 this
          unfold clauseS at a1
          split at a1
          · unfold initS at a1
            split at a1
            · obtain ⟨c, p, ew⟩ := wrong_bad (α := SyB × Bool) s.ts; rw [ew] at a1; cases a1
            · obtain ⟨x, u, f1, f2⟩ := Rs.some a1
              obtain ⟨x', u', f3, f4⟩ := Rs.some f2
              injection f4 with f5 f6
              subst f5
              exact hb
          · split at a1
            · unfold enterS at a1
              split at a1
              · obtain ⟨c, p, ew⟩ := wrong_bad (α := SyB × Bool) s.ts; rw [ew] at a1; cases a1
              · obtain ⟨x, u, f1, f2⟩ := Rs.some a1
                injection f2 with f5 f6
                subst f5
                exact fun h => by cases h
            · split at a1
              · unfold leaveS at a1
                split at a1
                · obtain ⟨c, p, ew⟩ := wrong_bad (α := SyB × Bool) s.ts; rw [ew] at a1; cases a1
                · obtain ⟨x, u, f1, f2⟩ := Rs.some a1
                  injection f2 with f5 f6
                  subst f5
                  exact hb
              · unfold movS at a1
                split at a1
                · injection a1 with f5 f6
                  subst f5
                  exact hb
                · obtain ⟨x, u, f1, f2⟩ := Rs.some a1
                  injection f2 with f5 f6
                  subst f5
                  exact hb
      · rename_i hz
        rw [if_neg hz] at b2
        injection a2 with a3 a4
        injection b2 with b3 b4
        subst a3 b3 a4 b4
        exact ⟨.rfl _, hs⟩

theorem kidS_sim {T : List Tk} {nd : Ss → Rs SyNode} (h : ∀ s s', Lk T s s' → (∃ t H, s.ts = t :: (H ++ eA T) ∧ s'.ts = t :: (H ++ eB T)) → Sim T (nd s) (nd s')) (l : List SyNode) (s s' : Ss) (hl : Lk T s s') : Sim T (kidS nd l s) (kidS nd l s') := by
  obtain ⟨a1, a2⟩ := wordAt_lk hl (l := [wState, wParallel, wHistory, wDeep]) (i := 1) (by decide)
  have a1 : nodeK s'.ts = nodeK s.ts := a1
  unfold kidS
  rw [a1]
  split
  · exact .ok _ hl
  · rename_i h0
    exact (h s s' hl (a2 h0)).bind' fun _ _ _ k1 => .ok _ k1
/-- Bodies of the same parts. -/
def eqZ (z z' : SyB × List SyNode) : Prop := z.1.eqB z'.1 ∧ z'.2 = z.2
theorem bodyR_sim {T : List Tk} {nd : Ss → Rs SyNode} (ht : ∀ s, Takes 1 s (nd s)) (h : ∀ s s', Lk T s s' → (∃ t H, s.ts = t :: (H ++ eA T) ∧ s'.ts = t :: (H ++ eB T)) → Sim T (nd s) (nd s')) {s s' : Ss} (hl : Lk T s s') :
    ∀ y r y' r', bodyR nd s = .ok y r → bodyR nd s' = .ok y' r' → eqZ y y' ∧ (r' = r ∨ Lk T r r') := fun y r y' r' e e' => by
  obtain ⟨b, s1, a1, a2⟩ := Rs.some e
  obtain ⟨b', s1', b1, b2⟩ := Rs.some e'
  obtain ⟨hb, hs⟩ := cl_sim _ _ _ _ (Nat.le_refl _) hl (fun _ => rfl) _ _ _ _ a1 b1
  obtain ⟨l, s2, a3, a4⟩ := Rs.some a2
  obtain ⟨l', s2', b3, b4⟩ := Rs.some b2
  have hx : l' = l ∧ (s2' = s2 ∨ Lk T s2 s2') := by
    rcases hs with rfl | hs
    · rw [a3] at b3
      injection b3 with b3 b5
      exact ⟨b3.symm, .inl b5.symm⟩
    · exact It_sim (kidS_goes ht) (kidS_sim h) _ _ _ _ (Nat.le_refl _) hs _ _ _ _ a3 b3
  injection a4 with a5 a6
  injection b4 with b5 b6
  subst a5 a6 b5 b6
  exact ⟨⟨hb, hx.1⟩, hx.2⟩
theorem nodeOf_eq {k : Nat} {x : List UInt8 × Int} {z z' : SyB × List SyNode} (h : eqZ z z') : nodeOf k x z' = nodeOf k x z := by
  obtain ⟨⟨h1, h2, h3, h4⟩, h5⟩ := h
  unfold nodeOf
  rw [h1, h2, h3, h4, h5]

theorem namedR_sim {T : List Tk} {s s' : Ss} (h : Lk T s s') (d : Nat) : Sim T (namedR d s) (namedR d s') := by
  rcases h.ways with ⟨h1, h2⟩ | ⟨t, H, h1, h2⟩
  · refine .bad ?_
    unfold namedR
    rw [h1]
    exact wrong_bad (eA T)
  · have hl := h.next h1 h2 (· + 1) id id
    have hn : s'.n = s.n := h.choose_spec.2.2.1
    unfold namedR
    rw [h1, h2] at hl ⊢
    rw [hn] at hl ⊢
    show Sim T (if t.kind = 1 then _ else _) (if t.kind = 1 then _ else _)
    split
    · split
      · exact .bad ⟨_, _, rfl⟩
      · split
        · exact .bad ⟨_, _, rfl⟩
        · exact .ok _ hl
    · exact .bad (wrong_bad _)
theorem innerR_sim {T : List Tk} {nd : Ss → Rs SyNode} (ht : ∀ s, Takes 1 s (nd s)) (h : ∀ s s', Lk T s s' → (∃ t H, s.ts = t :: (H ++ eA T) ∧ s'.ts = t :: (H ++ eB T)) → Sim T (nd s) (nd s')) (k : Nat) (x : List UInt8 × Int) {s s' : Ss} (hl : Lk T s s') : Sim T (innerR nd k x s) (innerR nd k x s') := by
  refine (mustR_sim hl (plain4 _)).bind' fun _ s1 s1' h1 => fun y r y' r' e e' => ?_
  obtain ⟨z, s2, a1, a2⟩ := Rs.some e
  obtain ⟨z', s2', b1, b2⟩ := Rs.some e'
  obtain ⟨hz, hs⟩ := bodyR_sim ht h h1 _ _ _ _ a1 b1
  obtain ⟨u, s3, a3, a4⟩ := Rs.some a2
  obtain ⟨u', s3', b3, b4⟩ := Rs.some b2
  injection a4 with a5 a6
  injection b4 with b5 b6
  subst a5 a6 b5 b6
  refine ⟨nodeOf_eq hz, ?_⟩
  rcases hs with rfl | hs
  · rw [a3] at b3
    injection b3 with _ b3
    exact .inl b3.symm
  · exact (mustR_sim hs (plain4 _) _ _ _ _ a3 b3).2
theorem nodeR_sim {T : List Tk} : ∀ (d : Nat) (s s' : Ss), Lk T s s' → (∃ t H, s.ts = t :: (H ++ eA T) ∧ s'.ts = t :: (H ++ eB T)) → Sim T (nodeR d s) (nodeR d s')
  | 0, s, s', hl, hh => by
    obtain ⟨c, p, e⟩ := namedR_zero s.drop
    exact .bad ⟨c, p, by unfold nodeR; rw [e]; rfl⟩
  | d + 1, s, s', hl, ⟨t, H, h1, h2⟩ => by
    have hd := hl.drop h1 h2
    have hk : nodeK s'.ts = nodeK s.ts := by rw [h1, h2]; rfl
    unfold nodeR
    rw [hk]
    refine (namedR_sim hd _).bind' fun x s1 s1' k1 => ?_
    split
    · exact (mustR_sim k1 (plain4 _)).bind' fun _ _ _ k2 => (nameR_sim k2).bind' fun _ _ _ k3 => (mustR_sim k3 (plain4 _)).bind' fun _ _ _ k4 => .ok _ k4
    · exact innerR_sim (nodeR_takes d) (nodeR_sim d) _ _ k1

theorem vnameR_sim {T : List Tk} {s s' : Ss} (h : Lk T s s') (k : Nat) : Sim T (vnameR k s) (vnameR k s') := by
  rcases h.ways with ⟨h1, h2⟩ | ⟨t, H, h1, h2⟩
  · refine .bad ?_
    unfold vnameR
    rw [h1]
    exact wrong_bad (eA T)
  · have hl := h.next h1 h2 id id id
    unfold vnameR
    rw [h1, h2] at hl ⊢
    show Sim T (if t.kind = 1 then _ else _) (if t.kind = 1 then _ else _)
    split
    · split
      · exact .bad ⟨_, _, rfl⟩
      · exact .ok _ hl
    · exact .bad (wrong_bad _)
theorem vnumR_sim {T : List Tk} {s s' : Ss} (h : Lk T s s') : Sim T (vnumR s) (vnumR s') := by
  obtain ⟨a1, a2⟩ := isAt_lk h (plain4 [45])
  unfold vnumR
  rw [a1]
  split
  · exact (numR_sim (a2 (by assumption))).bind' fun _ _ _ h1 => .ok _ h1
  · exact numR_sim h
theorem varS_sim {T : List Tk} (l : List SyVar) (s s' : Ss) (h : Lk T s s') : Sim T (varS l s) (varS l s') := by
  obtain ⟨a1, a2⟩ := isAt_lk h (show Plain 2 wVar by decide)
  unfold varS
  rw [a1]
  split
  · exact (vnameR_sim (a2 (by assumption)) _).bind' fun _ _ _ k1 => (mustR_sim k1 (plain4 _)).bind' fun _ _ _ k2 => (vnumR_sim k2).bind' fun _ _ _ k3 => (mustR_sim k3 (plain4 _)).bind' fun _ _ _ k4 => .ok _ k4
  · exact .ok _ h
theorem endR_sim {T : List Tk} {s s' : Ss} (h : Lk T s s') (c : SyChart) : Sim T (endR c s) (endR c s') := by
  rcases h.ways with ⟨h1, h2⟩ | ⟨t, H, h1, h2⟩
  · refine .bad ?_
    unfold endR
    rw [h1]
    exact wrong_bad (eA T)
  · unfold endR
    rw [h1, h2]
    show Sim T (if t.kind = 5 then _ else _) (if t.kind = 5 then _ else _)
    split
    · exact .ok _ h
    · exact .bad (wrong_bad _)
theorem chartR_sim {T : List Tk} {s s' : Ss} (h : Lk T s s') : Sim T (chartR s) (chartR s') := by
  refine (mustR_sim h (show Plain 2 wChart by decide)).bind' fun _ _ _ k1 => (namedR_sim k1 _).bind' fun x _ _ k2 => (mustR_sim k2 (plain4 _)).bind' fun _ s3 s3' k3 => (It_sim varS_goes varS_sim _ [] s3 s3' (Nat.le_refl _) k3).bind' fun l s4 s4' k4 => fun y r y' r' e e' => ?_
  obtain ⟨z, s5, a1, a2⟩ := Rs.some e
  obtain ⟨z', s5', b1, b2⟩ := Rs.some e'
  obtain ⟨hz, hs⟩ := bodyR_sim (nodeR_takes 11) (nodeR_sim 11) k4 _ _ _ _ a1 b1
  rw [nodeOf_eq hz] at b2
  rcases hs with rfl | hs
  · rw [a2] at b2
    injection b2 with b3 b4
    exact ⟨b3.symm, .inl b4.symm⟩
  · exact ((mustR_sim hs (plain4 _)).bind' fun _ _ _ k6 => endR_sim k6 _) _ _ _ _ a2 b2
/-- The charts are the same: tokens without places. -/
theorem blocks_same {H T : List Tk} {c c' : SyChart} {r r' : Ss} (h : syR (H ++ eA T) = .ok c r) (h' : syR (H ++ eB T) = .ok c' r') : c' = c :=
  (chartR_sim (T := T) (s := ⟨H ++ eA T, 0, 0, 0⟩) (s' := ⟨H ++ eB T, 0, 0, 0⟩) ⟨H, rfl, rfl, rfl, rfl, rfl⟩ _ _ _ _ h h').1

def tE : Tk := ⟨5, [], 0, 0⟩
def rep (g : List Tk → List Tk) : Nat → List Tk → List Tk
  | 0, T => T
  | k + 1, T => g (rep g k T)

theorem scT_step {l m : List UInt8} (hm : l.drop (blK false l) = m) (h0 : m ≠ []) (he : tkE m = 0) (p : Nat) (acc : List Tk) :
    scT p acc l = scT (p + blK false l + tkS m) (acc ++ [tkT m ((p + blK false l : Nat) : Int)]) (m.drop (tkS m)) := by
  have hp := tkS_pos2 h0 he
  have hs := tkS_le m
  have hl := congrArg List.length hm
  rw [List.length_drop] at hl
  unfold scT
  rw [scA_step hm h0 he]
  exact scA_same _ _ _ _ _ (by rw [List.length_drop]; omega) (by omega)
theorem scT_end {l : List UInt8} (hm : l.drop (blK false l) = []) (p : Nat) (acc : List Tk) : scT p acc l = (acc ++ [⟨5, [], 0, ((p + blK false l : Nat) : Int)⟩], 0, 0) := scA_end hm
theorem scT_bad {l m : List UInt8} (hm : l.drop (blK false l) = m) (h0 : m ≠ []) (he : tkE m ≠ 0) (p : Nat) (acc : List Tk) : scT p acc l = ([], tkE m, ((p + blK false l : Nat) : Int)) := scA_bad hm h0 he

theorem blK_whole_end {l : List UInt8} (hm : l.drop (blK false l) = []) : blK false l = l.length := by
  have := congrArg List.length hm
  have := blK_le false l
  rw [List.length_drop, List.length_nil] at *
  omega

/-- A line's end between two texts. -/
theorem scT_split (t : List UInt8) : ∀ (n : Nat) (l : List UInt8) (p : Nat) (acc : List Tk), l.length ≤ n →
    ((scT p acc l).2.1 ≠ 0 ∧ scT p acc (l ++ 10 :: t) = scT p acc l) ∨
    ∃ Y : List Tk, scT p acc l = (Y ++ [⟨5, [], 0, ((p + l.length : Nat) : Int)⟩], 0, 0) ∧ scT p acc (l ++ 10 :: t) = scT (p + l.length + 1) Y t
  | n, l, p, acc, hn => by
    have hb := blK_le false l
    by_cases hm : l.drop (blK false l) = []
    · right
      have hbl := blK_whole_end hm
      refine ⟨acc, by rw [scT_end hm, hbl], ?_⟩
      have hb2 := (blK_app false l t).1 hbl
      have hd : (l ++ 10 :: t).drop (l.length + (blK false t + 1)) = t.drop (blK false t) := by
        rw [← List.drop_drop, List.drop_left, List.drop_succ_cons]
      unfold scT
      rw [scA_skip, hb2, hd, scA_skip t.length, show p + (l.length + (blK false t + 1)) = p + l.length + 1 + blK false t from by omega]
      exact scA_same _ _ _ _ _ (by rw [List.length_drop, List.length_append, List.length_cons]; omega) (by rw [List.length_drop]; omega)
    · have hbl : blK false l < l.length := by
        rcases Nat.lt_or_ge (blK false l) l.length with h1 | h1
        · exact h1
        · exact absurd (List.drop_of_length_le h1) hm
      have hb2 := (blK_app false l t).2 hbl
      obtain ⟨m, hmm⟩ : ∃ m, l.drop (blK false l) = m := ⟨_, rfl⟩
      have hd2 : (l ++ 10 :: t).drop (blK false (l ++ 10 :: t)) = m ++ 10 :: t := by rw [hb2, List.drop_append_of_le_length hb, hmm]
      rw [hmm] at hm
      obtain ⟨k1, k2, k3⟩ := tk_app hm t ((p + blK false l : Nat) : Int)
      by_cases he : tkE m = 0
      · have hs := tkS_le m
        have hp := tkS_pos2 hm he
        have hml : m.length = l.length - blK false l := by rw [← hmm, List.length_drop]
        have hd3 : (m ++ 10 :: t).drop (tkS m) = m.drop (tkS m) ++ 10 :: t := List.drop_append_of_le_length hs
        obtain ⟨n, rfl⟩ : ∃ j, n = j + 1 := ⟨n - 1, by omega⟩
        have ih := scT_split t n (m.drop (tkS m)) (p + blK false l + tkS m) (acc ++ [tkT m ((p + blK false l : Nat) : Int)]) (by rw [List.length_drop]; omega)
        rw [← scT_step hmm hm he, show p + blK false l + tkS m + (m.drop (tkS m)).length = p + l.length from by rw [List.length_drop]; omega] at ih
        have e2 : scT p acc (l ++ 10 :: t) = scT (p + blK false l + tkS m) (acc ++ [tkT m ((p + blK false l : Nat) : Int)]) (m.drop (tkS m) ++ 10 :: t) := by
          rw [scT_step hd2 (by simp) (by rw [k1]; exact he), hb2, k2, k3, hd3]
        rw [e2]
        exact ih
      · left
        rw [scT_bad hmm hm he, scT_bad hd2 (by simp) (by rw [k1]; exact he), hb2, k1]
        exact ⟨he, rfl⟩

theorem tkT_er (m : List UInt8) (p q : Int) : (tkT m p).er = (tkT m q).er := by
  cases m with
  | nil => rfl
  | cons c r =>
    rw [tkT_cons, tkT_cons]
    split
    · rfl
    · split <;> rfl

/-- A text's tokens are those, but for their places, whatever stands in front. -/
def ScIs (l : List UInt8) (u : List Tk) : Prop := ∀ p acc, ∃ (v : List Tk) (q : Int), v.map Tk.er = u ∧ scT p acc l = (acc ++ v ++ [⟨5, [], 0, q⟩], 0, 0)
/-- There is a fault. -/
def ScNo (l : List UInt8) : Prop := ∀ p acc, (scT p acc l).2.1 ≠ 0

theorem scT_ways : ∀ (n : Nat) (l : List UInt8), l.length ≤ n → (∃ u, ScIs l u) ∨ ScNo l
  | n, l, hn => by
    obtain ⟨m, hmm⟩ : ∃ m, l.drop (blK false l) = m := ⟨_, rfl⟩
    by_cases hm : m = []
    · subst hm
      exact .inl ⟨[], fun p acc => ⟨[], _, rfl, by rw [scT_end hmm, List.append_nil]⟩⟩
    · by_cases he : tkE m = 0
      · have hs := tkS_le m
        have hp := tkS_pos2 hm he
        have hml : m.length = l.length - blK false l := by rw [← hmm, List.length_drop]
        obtain ⟨n, rfl⟩ : ∃ j, n = j + 1 := ⟨n - 1, by omega⟩
        rcases scT_ways n (m.drop (tkS m)) (by rw [List.length_drop]; omega) with ⟨u, hu⟩ | hno
        · refine .inl ⟨(tkT m 0).er :: u, fun p acc => ?_⟩
          obtain ⟨v, q, h1, h2⟩ := hu (p + blK false l + tkS m) (acc ++ [tkT m ((p + blK false l : Nat) : Int)])
          refine ⟨tkT m ((p + blK false l : Nat) : Int) :: v, q, by rw [List.map_cons, h1, tkT_er m _ 0], ?_⟩
          rw [scT_step hmm hm he, h2]
          simp
        · exact .inr fun p acc => by rw [scT_step hmm hm he]; exact hno _ _
      · exact .inr fun p acc => by rw [scT_bad hmm hm he]; exact he

theorem ScIs.line {l t : List UInt8} {u w : List Tk} (h : ScIs l u) (ht : ScIs t w) : ScIs (l ++ 10 :: t) (u ++ w) := fun p acc => by
  obtain ⟨v, q, h1, h2⟩ := h p acc
  rcases scT_split t _ l p acc (Nat.le_refl _) with ⟨h3, _⟩ | ⟨Y, h3, h4⟩
  · rw [h2] at h3
    exact absurd rfl h3
  · rw [h2] at h3
    injection h3 with h3 _
    have hY : acc ++ v = Y := (List.append_inj' h3 rfl).1
    obtain ⟨v', q', k1, k2⟩ := ht (p + l.length + 1) Y
    refine ⟨v ++ v', q', by rw [List.map_append, h1, k1], ?_⟩
    rw [h4, k2, ← hY]
    simp
theorem ScNo.line1 {l : List UInt8} (h : ScNo l) (t : List UInt8) : ScNo (l ++ 10 :: t) := fun p acc => by
  rcases scT_split t _ l p acc (Nat.le_refl _) with ⟨h3, h4⟩ | ⟨Y, h3, h4⟩
  · rw [h4]; exact h3
  · exact absurd (by rw [h3]) (h p acc)
theorem ScNo.line2 {l t : List UInt8} {u : List Tk} (h : ScIs l u) (ht : ScNo t) : ScNo (l ++ 10 :: t) := fun p acc => by
  obtain ⟨v, q, h1, h2⟩ := h p acc
  rcases scT_split t _ l p acc (Nat.le_refl _) with ⟨h3, _⟩ | ⟨Y, h3, h4⟩
  · rw [h2] at h3
    exact absurd rfl h3
  · rw [h4]; exact ht _ _

/-- A text that stands in front of any other one: its tokens, and no more. -/
def Ahead (d : List UInt8) (u : List Tk) : Prop := ∀ t p acc, ∃ (v : List Tk) (q : Nat), v.map Tk.er = u ∧ scT p acc (d ++ t) = scT q (acc ++ v) t
theorem Ahead.nil : Ahead [] [] := fun t p acc => ⟨[], p, rfl, by rw [List.append_nil]; rfl⟩
theorem Ahead.append {d d' : List UInt8} {u u' : List Tk} (h : Ahead d u) (h' : Ahead d' u') : Ahead (d ++ d') (u ++ u') := fun t p acc => by
  obtain ⟨v, q, h1, h2⟩ := h (d' ++ t) p acc
  obtain ⟨v', q', k1, k2⟩ := h' t q (acc ++ v)
  exact ⟨v ++ v', q', by rw [List.map_append, h1, k1], by rw [List.append_assoc, h2, k2, List.append_assoc]⟩
theorem Ahead.is {d t : List UInt8} {u w : List Tk} (h : Ahead d u) (ht : ScIs t w) : ScIs (d ++ t) (u ++ w) := fun p acc => by
  obtain ⟨v, q, h1, h2⟩ := h t p acc
  obtain ⟨v', q', k1, k2⟩ := ht q (acc ++ v)
  exact ⟨v ++ v', q', by rw [List.map_append, h1, k1], by rw [h2, k2]; simp⟩
theorem Ahead.no {d t : List UInt8} {u : List Tk} (h : Ahead d u) (ht : ScNo t) : ScNo (d ++ t) := fun p acc => by
  obtain ⟨v, q, h1, h2⟩ := h t p acc
  rw [h2]; exact ht _ _
theorem scIs_nil : ScIs [] [] := fun p acc => ⟨[], _, rfl, by rw [scT_nil, List.append_nil]⟩
theorem Ahead.all {d : List UInt8} {u : List Tk} (h : Ahead d u) : ScIs d u := by
  have := h.is scIs_nil
  rwa [List.append_nil, List.append_nil] at this

theorem Ahead.blank {c : UInt8} (hc : isBl c = true) : Ahead [c] [] := fun t p acc => ⟨[], p + 1, rfl, by rw [List.append_nil]; exact scT_blank hc p acc t⟩
/-- A word or a name, and what stands behind it. -/
theorem Ahead.word {c : UInt8} {u d : List UInt8} {w : List Tk} (hc : isLt c = true) (hu : wdK (c :: u) = (c :: u).length) (hl : (c :: u).length ≤ 24) (hd : ∃ z y, d = z :: y ∧ isWd z = false) (h : Ahead d w) :
    Ahead (c :: u ++ d) (⟨if isKw (c :: u) = true then 2 else 1, c :: u, 0, 0⟩ :: w) := fun t p acc => by
  obtain ⟨z, y, rfl, hz⟩ := hd
  have hnw : NW (z :: y ++ t) := fun c r e => by
    rw [List.cons_append] at e
    injection e with e _
    rw [← e]
    exact hz
  obtain ⟨v, q, h1, h2⟩ := h t (p + (c :: u).length) (acc ++ [⟨if isKw (c :: u) = true then 2 else 1, c :: u, 0, (p : Int)⟩])
  refine ⟨⟨if isKw (c :: u) = true then 2 else 1, c :: u, 0, (p : Int)⟩ :: v, q, by rw [List.map_cons, h1]; rfl, ?_⟩
  rw [List.append_assoc, scT_run hc hu hl hnw, h2]
  simp
/-- A number, and what stands behind it. -/
theorem Ahead.int {n : Int} (h0 : 0 ≤ n) (h1 : n ≤ 9223372036854775807) {d : List UInt8} {w : List Tk} (hd : ∃ z y, d = z :: y ∧ isWd z = false) (h : Ahead d w) : Ahead (Lib.itoa n ++ d) (⟨3, [], n, 0⟩ :: w) := fun t p acc => by
  obtain ⟨z, y, rfl, hz⟩ := hd
  have hnw : NW (z :: y ++ t) := fun c r e => by
    rw [List.cons_append] at e
    injection e with e _
    rw [← e]
    exact hz
  obtain ⟨v, q, k1, k2⟩ := h t (p + (Lib.itoa n).length) (acc ++ [⟨3, [], n, (p : Int)⟩])
  refine ⟨⟨3, [], n, (p : Int)⟩ :: v, q, by rw [List.map_cons, k1]; rfl, ?_⟩
  rw [List.append_assoc, scT_int h0 h1 hnw, k2]
  simp
/-- A sign that stands alone, whatever comes. -/
theorem Ahead.sign {c : UInt8} {d : List UInt8} {w : List Tk} (hl : isLt c = false) (hg : isDg c = false) (hb : ∀ t, blK false (c :: t) = 0) (hs : ∀ t, sgn (c :: t) = 1) (h : Ahead d w) : Ahead (c :: d) (⟨4, [c], 0, 0⟩ :: w) := fun t p acc => by
  obtain ⟨v, q, h1, h2⟩ := h t (p + 1) (acc ++ [⟨4, [c], 0, (p : Int)⟩])
  refine ⟨⟨4, [c], 0, (p : Int)⟩ :: v, q, by rw [List.map_cons, h1]; rfl, ?_⟩
  rw [List.cons_append, scT_sign hl hg (hb _) (hs _) (by decide)]
  show scT (p + 1) (acc ++ [⟨4, [c], 0, (p : Int)⟩]) (d ++ t) = _
  rw [h2]
  simp
/-- A sign and a blank. -/
theorem Ahead.signB {s : List UInt8} {z : UInt8} {d : List UInt8} {w : List Tk} (hl : ∃ c u, s = c :: u ∧ isLt c = false ∧ isDg c = false ∧ (∀ t, blK false (c :: (u ++ z :: t)) = 0) ∧ ∀ t, sgn (c :: (u ++ z :: t)) = (c :: u).length) (h : Ahead (z :: d) w) : Ahead (s ++ z :: d) (⟨4, s, 0, 0⟩ :: w) := fun t p acc => by
  obtain ⟨c, u, rfl, h1, h2, h3, h4⟩ := hl
  obtain ⟨v, q, k1, k2⟩ := h t (p + (c :: u).length) (acc ++ [⟨4, c :: u, 0, (p : Int)⟩])
  refine ⟨⟨4, c :: u, 0, (p : Int)⟩ :: v, q, by rw [List.map_cons, k1]; rfl, ?_⟩
  have e1 : (c :: (u ++ z :: (d ++ t))).take (c :: u).length = c :: u := by rw [← List.cons_append, List.take_left']; rfl
  have e2 : (c :: (u ++ z :: (d ++ t))).drop (c :: u).length = z :: (d ++ t) := by rw [← List.cons_append, List.drop_left']; rfl
  have e3 : c :: u ++ z :: d ++ t = c :: (u ++ z :: (d ++ t)) := by simp
  rw [e3, scT_sign h1 h2 (h3 _) (h4 _) (by simp), e1, e2]
  rw [List.cons_append] at k2
  rw [k2]
  simp

/-- A word or a name of a known text, and a blank. -/
theorem ahW {c : UInt8} (u : List UInt8) (k : Int) (hk : (if isKw (c :: u) = true then (2 : Int) else 1) = k) (hc : isLt c = true) (hu : wdK (c :: u) = (c :: u).length) (hl : (c :: u).length ≤ 24) : Ahead (c :: u ++ [32]) [⟨k, c :: u, 0, 0⟩] := by
  rw [← hk]
  exact Ahead.word hc hu hl ⟨32, [], rfl, rfl⟩ (Ahead.blank rfl)
/-- A sign that is one byte for sure. -/
theorem ahS {c : UInt8} (hc : c ∈ ([123, 125, 59] : List UInt8)) : Ahead [c] [tS [c]] := by
  have h : c = 123 ∨ c = 125 ∨ c = 59 := by simpa using hc
  rcases h with rfl | rfl | rfl
  · exact Ahead.sign rfl rfl (fun t => by cases t <;> rfl) (fun t => by cases t <;> rfl) .nil
  · exact Ahead.sign rfl rfl (fun t => by cases t <;> rfl) (fun t => by cases t <;> rfl) .nil
  · exact Ahead.sign rfl rfl (fun t => by cases t <;> rfl) (fun t => by cases t <;> rfl) .nil
theorem ahSB {c : UInt8} (hc : c ∈ ([123, 125, 59] : List UInt8)) : Ahead ([c] ++ [32]) [tS [c]] := (ahS hc).append (Ahead.blank rfl)
theorem ahArrow : Ahead ([45, 62] ++ [32]) [tS [45, 62]] := Ahead.signB ⟨45, [62], rfl, rfl, rfl, fun _ => rfl, fun _ => rfl⟩ (Ahead.blank rfl)
theorem ahName {c : UInt8} (u : List UInt8) (hk : isKw (c :: u) = false) (hc : isLt c = true) (hu : wdK (c :: u) = (c :: u).length) (hl : (c :: u).length ≤ 24) : Ahead (c :: u ++ [59]) [tN (c :: u), tS [59]] := by
  have := Ahead.word hc hu hl ⟨59, [], rfl, rfl⟩ (ahS (c := 59) (by decide))
  rw [hk] at this
  exact this

/-- "chart c {" and what the laws put behind it. -/
def headS : List UInt8 := [99, 104, 97, 114, 116, 32, 99, 32, 123]
theorem ah_head : Ahead headS [tW wChart, tN [99], tS [123]] :=
  ((ahW (c := 99) [104, 97, 114, 116] 2 (by decide) (by decide) (by decide) (by decide)).append ((ahW (c := 99) [] 1 (by decide) (by decide) (by decide) (by decide)).append (ahS (c := 123) (by decide))))
/-- A text that is no fault: its tokens. -/
theorem sc_of {l : List UInt8} {u : List Tk} (h : ScIs l u) (hl : l.length ≤ 16384) : (scF l).2 = (0, 0) ∧ (scF l).1.map Tk.er = u ++ [tE] := by
  obtain ⟨v, q, h1, h2⟩ := h 0 []
  rw [scF_T hl, h2]
  refine ⟨rfl, ?_⟩
  rw [List.nil_append, List.map_append, h1]
  rfl

/-- What Parse comes to. -/
def syF (l : List UInt8) : Rs SyChart := if (scF l).2.1 = 0 then syR (scF l).1 else .bad (scF l).2.1 (scF l).2.2
theorem syF_er {l : List UInt8} {u : List Tk} (h : ScIs l u) (hl : l.length ≤ 16384) : (syF l).er SyChart.er = syR (u ++ [tE]) := by
  obtain ⟨h1, h2⟩ := sc_of h hl
  unfold syF
  rw [h1, if_pos rfl, ← syR_er, h2]
/-- Its code. -/
def Rs.code {α : Type} : Rs α → Int
  | .out => -1
  | .bad c _ => c
  | .ok _ _ => 0
/-- "enter { } on go -> x; " and "on go { } -> x; ". -/
def blkA : List UInt8 := [101, 110, 116, 101, 114, 32, 123, 32, 125, 32, 111, 110, 32, 103, 111, 32, 45, 62, 32, 120, 59, 32]
def blkB : List UInt8 := [111, 110, 32, 103, 111, 32, 123, 32, 125, 32, 45, 62, 32, 120, 59, 32]
theorem ah_tail : Ahead ([45, 62] ++ [32] ++ ([120, 59] ++ [32])) [tS [45, 62], tN xN, tS [59]] :=
  ahArrow.append ((ahName (c := 120) [] (by decide) (by decide) (by decide) (by decide)).append (Ahead.blank rfl))
theorem ah_none : Ahead ([123, 32] ++ [125, 32]) [tS [123], tS [125]] := (ahSB (c := 123) (by decide)).append (ahSB (c := 125) (by decide))
theorem ah_on : Ahead ([111, 110, 32] ++ [103, 111, 32]) [tW wOn, tN goN] := (ahW (c := 111) [110] 2 (by decide) (by decide) (by decide) (by decide)).append (ahW (c := 103) [111] 1 (by decide) (by decide) (by decide) (by decide))
theorem ah_blkA : Ahead blkA [tW wEnter, tS [123], tS [125], tW wOn, tN goN, tS [45, 62], tN xN, tS [59]] :=
  (ahW (c := 101) [110, 116, 101, 114] 2 (by decide) (by decide) (by decide) (by decide)).append (ah_none.append (ah_on.append ah_tail))
theorem ah_blkB : Ahead blkB [tW wOn, tN goN, tS [123], tS [125], tS [45, 62], tN xN, tS [59]] := ah_on.append (ah_none.append ah_tail)
def headS2 : List UInt8 := headS ++ [32]

/-- The law on empty blocks: what the two texts are read as. -/
theorem blocks_text (l t : List UInt8) {c c' : SyChart} {r r' : Ss} (hA : (headS2 ++ l ++ 10 :: (blkA ++ t)).length ≤ 16384) (hB : (headS2 ++ l ++ 10 :: (blkB ++ t)).length ≤ 16384)
    (h : syF (headS2 ++ l ++ 10 :: (blkA ++ t)) = .ok c r) (h' : syF (headS2 ++ l ++ 10 :: (blkB ++ t)) = .ok c' r') : c'.er = c.er := by
  have no : ∀ {l : List UInt8} {c : SyChart} {r : Ss}, ScNo l → l.length ≤ 16384 → syF l = .ok c r → False := fun hn hl he => by
    have h0 := hn 0 []
    unfold syF at he
    rw [scF_T hl, if_neg h0] at he
    cases he
  have ah2 : Ahead headS2 [tW wChart, tN [99], tS [123]] := ah_head.append (Ahead.blank (c := 32) rfl)
  rcases scT_ways _ l (Nat.le_refl _) with ⟨u, hu⟩ | hno
  · have hl : ScIs (headS2 ++ l) ([tW wChart, tN [99], tS [123]] ++ u) := ah2.is hu
    rcases scT_ways _ t (Nat.le_refl _) with ⟨w, hw⟩ | hno
    · have iA := hl.line (ah_blkA.is hw)
      have iB := hl.line (ah_blkB.is hw)
      have eA' := syF_er iA hA
      have eB' := syF_er iB hB
      rw [h] at eA'
      rw [h'] at eB'
      exact blocks_same (H := [tW wChart, tN [99], tS [123]] ++ u) (T := w ++ [tE]) (c := c.er) (c' := c'.er) (r := r.er) (r' := r'.er) (by rw [show Rs.ok c.er r.er = (Rs.ok c r).er SyChart.er from rfl, eA']; simp [eA, mvT]) (by rw [show Rs.ok c'.er r'.er = (Rs.ok c' r').er SyChart.er from rfl, eB']; simp [eB, mvT])
    · exact (no (ScNo.line2 hl (ah_blkA.no hno)) hA h).elim
  · exact (no ((ah2.no hno).line1 _) hA h).elim

theorem sc_short {l : List UInt8} (h : (scF l).2.1 = 0) : l.length ≤ 16384 := by
  unfold scF at h
  split at h
  · cases h
  · omega

end Go.Proofs.YtcddbfdbhjkjgaaGreatDoor
