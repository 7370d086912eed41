/-
  Charts, in plain lists of tokens: the grammar read from left to right.
  Charts, in plain lists of tokens: bodies, nodes, variables, the chart.
  Charts: reading without places.
  Charts: an empty block is as none.
  Charts: an empty block is as none: the parts, the chart.
  Charts: an empty block is as none: bodies, nodes, the chart.
  Charts: how many variables, and how many nodes, within each other too, there may be.
  Tokens of texts one behind another, without places.
  Charts: the laws' texts, and their tokens.
  The tokens of a text, printed one behind another with blanks and notes between.
-/
import Derived.Test.YtcddbfdbhjkjgaaGreatDoorXE
namespace Go.Proofs.YtcddbfdbhjkjgaaGreatDoor

/-- A variable, an act, a move, a node, a chart. -/
structure SyVar where
  name : List UInt8
  num : Int
  at_ : Int
structure SyAct where
  kind : Int
  name : List UInt8
  value : Option Ex
  at_ : Int
structure SyMove where
  kind : Int
  event : List UInt8
  wait : Int
  guarded : Bool
  guard : Option Ex
  acts : List SyAct
  targets : List (List UInt8)
  at_ : Int
inductive SyNode where
  | mk (kind : Int) (name initial default : List UInt8) (enter leave : List SyAct) (moves : List SyMove) (kids : List SyNode) (at_ : Int)
structure SyChart where
  vars : List SyVar
  root : SyNode

/-- The reader's state: the tokens ahead; how many nodes, moves, acts there were. -/
structure Ss where
  ts : List Tk
  n : Nat
  m : Nat
  a : Nat

/-- What reading a part comes to. -/
inductive Rs (α : Type) where
  | out
  | bad (code p : Int)
  | ok (x : α) (s : Ss)

def Rs.bind {α β : Type} (e : Rs α) (g : α → Ss → Rs β) : Rs β := match e with
  | .ok x s => g x s
  | .out => .out
  | .bad c p => .bad c p

@[simp] theorem Rs.bind_ok {α β : Type} (x : α) (s : Ss) (g : α → Ss → Rs β) : (Rs.ok x s).bind g = g x s := rfl
@[simp] theorem Rs.bind_bad {α β : Type} (c p : Int) (g : α → Ss → Rs β) : (Rs.bad c p : Rs α).bind g = .bad c p := rfl
@[simp] theorem Rs.bind_out {α β : Type} (g : α → Ss → Rs β) : (Rs.out : Rs α).bind g = .out := rfl

theorem Rs.some {α β : Type} {e : Rs α} {g : α → Ss → Rs β} {y : β} {r : Ss} (h : e.bind g = .ok y r) : ∃ x s, e = .ok x s ∧ g x s = .ok y r := by
  cases e with
  | out => cases h
  | bad c p => cases h
  | ok x s => exact ⟨x, s, rfl, h⟩

theorem Rs.congr {α β : Type} {e : Rs α} {g g' : α → Ss → Rs β} (h : ∀ x s, e = .ok x s → g x s = g' x s) : e.bind g = e.bind g' := by
  cases e with
  | out => rfl
  | bad c p => rfl
  | ok x s => exact h x s rfl

theorem Rs.notOut {α β : Type} {e : Rs α} {g : α → Ss → Rs β} (h0 : e ≠ .out) (h : ∀ x s, e = .ok x s → g x s ≠ .out) : e.bind g ≠ .out := by
  cases e with
  | out => exact absurd rfl h0
  | bad c p => intro h; cases h
  | ok x s => exact h x s rfl

theorem Rs.assoc {α β γ : Type} (e : Rs α) (g : α → Ss → Rs β) (h : β → Ss → Rs γ) : (e.bind g).bind h = e.bind fun x s => (g x s).bind h := by
  cases e <;> rfl

/-- What is read takes as many tokens at least. -/
def Takes {α : Type} (k : Nat) (s : Ss) (e : Rs α) : Prop := ∀ x s', e = .ok x s' → s'.ts.length + k ≤ s.ts.length

theorem Takes.bind {α β : Type} {k l : Nat} {s : Ss} {e : Rs α} {g : α → Ss → Rs β} (h : Takes k s e) (hg : ∀ x s', e = .ok x s' → Takes l s' (g x s')) : Takes (k + l) s (e.bind g) := fun y r hy => by
  obtain ⟨x, s', e1, e2⟩ := Rs.some hy
  have := h x s' e1
  have := hg x s' e1 y r e2
  omega
theorem Takes.mono {α : Type} {k l : Nat} {s : Ss} {e : Rs α} (h : Takes k s e) (hl : l ≤ k) : Takes l s e := fun x s' hx => by
  have := h x s' hx
  omega
theorem Takes.le_of {α : Type} {k : Nat} {s u : Ss} {e : Rs α} (h : Takes k u e) (hl : u.ts.length ≤ s.ts.length) : Takes k s e := fun x s' hx => by
  have := h x s' hx
  omega
theorem Takes.ok {α : Type} (x : α) (s : Ss) : Takes 0 s (.ok x s) := fun y s' h => by
  injection h with _ h
  subst h
  exact Nat.le_refl _
theorem Takes.bad {α : Type} (k : Nat) (s : Ss) (c p : Int) : Takes k s (.bad c p : Rs α) := fun _ _ h => by cases h
theorem Takes.out {α : Type} (k : Nat) (s : Ss) : Takes k s (.out : Rs α) := fun _ _ h => by cases h
theorem Takes.next {α : Type} {k : Nat} {s : Ss} {t : Tk} {r : List Tk} {n m a : Nat} {e : Rs α} (hs : s.ts = t :: r) (h : Takes k ⟨r, n, m, a⟩ e) : Takes (k + 1) s e := fun x s' hx => by
  have := h x s' hx
  rw [hs, List.length_cons]
  simp only at this
  omega

/-- A loop: from round to round, while it goes on. -/
def itF {σ : Type} (stp : σ → Ss → Rs (σ × Bool)) : Nat → σ → Ss → Rs σ
  | 0, _, _ => .out
  | f + 1, x, s => (stp x s).bind fun y s' => if y.2 = true then itF stp f y.1 s' else .ok y.1 s'

/-- Each round that goes on takes a token. -/
def Goes {σ : Type} (stp : σ → Ss → Rs (σ × Bool)) : Prop := ∀ x s y s', stp x s = .ok (y, true) s' → s'.ts.length < s.ts.length
def Keeps {σ : Type} (stp : σ → Ss → Rs (σ × Bool)) : Prop := ∀ x s, Takes 0 s (stp x s)

theorem itF_same {σ : Type} {stp : σ → Ss → Rs (σ × Bool)} (hg : Goes stp) : ∀ f f' x s, s.ts.length < f → s.ts.length < f' → itF stp f x s = itF stp f' x s
  | 0, _, _, _, h, _ => by omega
  | _ + 1, 0, _, _, _, h => by omega
  | f + 1, f' + 1, x, s, h, h' => by
    rw [itF, itF]
    refine Rs.congr fun y s' e => ?_
    split
    · rename_i hy
      have e' : stp x s = .ok (y.1, true) s' := by rw [e, ← hy]
      have := hg _ _ _ _ e'
      exact itF_same hg f f' _ _ (by omega) (by omega)
    · rfl

theorem itF_takes {σ : Type} {stp : σ → Ss → Rs (σ × Bool)} (hk : Keeps stp) : ∀ f x s, Takes 0 s (itF stp f x s)
  | 0, _, s => .out 0 s
  | f + 1, x, s => by
    rw [itF]
    refine Takes.bind (k := 0) (l := 0) (hk x s) fun y s' _ => ?_
    split
    · exact itF_takes hk f _ _
    · exact .ok _ _

def It {σ : Type} (stp : σ → Ss → Rs (σ × Bool)) (x : σ) (s : Ss) : Rs σ := itF stp (s.ts.length + 1) x s

theorem It_eq {σ : Type} {stp : σ → Ss → Rs (σ × Bool)} (hg : Goes stp) (x : σ) (s : Ss) : It stp x s = (stp x s).bind fun y s' => if y.2 = true then It stp y.1 s' else .ok y.1 s' := by
  unfold It
  rw [itF]
  refine Rs.congr fun y s' e => ?_
  split
  · rename_i hy
    have e' : stp x s = .ok (y.1, true) s' := by rw [e, ← hy]
    have := hg _ _ _ _ e'
    exact itF_same hg _ _ _ _ (by omega) (by omega)
  · rfl
theorem It_takes {σ : Type} {stp : σ → Ss → Rs (σ × Bool)} (hk : Keeps stp) (x : σ) (s : Ss) : Takes 0 s (It stp x s) := itF_takes hk _ x s
/-- Is a token that word, or sign? -/
def isTk (k : Int) (u : List UInt8) (t : Tk) : Bool := decide (t.kind = k) && decide (t.text = u)
/-- Does it stand there? -/
def isAt (k : Int) (u : List UInt8) : List Tk → Bool
  | [] => false
  | t :: _ => isTk k u t

/-- The token cannot stand there. -/
def wrongR {α : Type} : List Tk → Rs α
  | [] => .bad 0 0
  | t :: _ => if t.kind = 5 then .bad 3 t.at_ else .bad 4 t.at_
def stopR {α : Type} (c : Int) : List Tk → Rs α
  | [] => .bad 0 0
  | t :: _ => .bad c t.at_
/-- A fault at the token that stands there. -/
def atOf : List Tk → Int
  | [] => 0
  | t :: _ => t.at_
def kindOf : List Tk → Int
  | [] => 0
  | t :: _ => t.kind

theorem wrongR_cons {α : Type} (t : Tk) (r : List Tk) : (wrongR (t :: r) : Rs α) = if t.kind = 5 then .bad 3 t.at_ else .bad 4 t.at_ := rfl
theorem wrongR_takes {α : Type} (k : Nat) (s : Ss) (ts : List Tk) : Takes k s (wrongR ts : Rs α) := by
  cases ts with
  | nil => exact Takes.bad _ _ _ _
  | cons t r => rw [wrongR_cons]; split <;> exact Takes.bad _ _ _ _
theorem stopR_takes {α : Type} (k : Nat) (s : Ss) (c : Int) (ts : List Tk) : Takes k s (stopR c ts : Rs α) := by
  cases ts with
  | nil => exact Takes.bad _ _ _ _
  | cons t r => exact Takes.bad _ _ _ _
def Ss.drop (s : Ss) : Ss := ⟨s.ts.tail, s.n, s.m, s.a⟩

/-- That word, or sign, must stand there. -/
def mustR (k : Int) (u : List UInt8) (s : Ss) : Rs Unit := if isAt k u s.ts = true then .ok () s.drop else wrongR s.ts
/-- A name, with its place; a number. -/
def nameR (s : Ss) : Rs (List UInt8 × Int) := match s.ts with
  | [] => .bad 0 0
  | t :: r => if t.kind = 1 then .ok (t.text, t.at_) ⟨r, s.n, s.m, s.a⟩ else wrongR (t :: r)
def numR (s : Ss) : Rs Int := match s.ts with
  | [] => .bad 0 0
  | t :: r => if t.kind = 3 then .ok t.num ⟨r, s.n, s.m, s.a⟩ else wrongR (t :: r)
def exprR (s : Ss) : Rs Ex := match Pf 0 0 s.ts with
  | .out => .out
  | .bad c p => .bad c p
  | .ok x r => .ok x ⟨r, s.n, s.m, s.a⟩

theorem isAt_cons {k : Int} {u : List UInt8} {ts : List Tk} (h : isAt k u ts = true) : ∃ t r, ts = t :: r := by
  cases ts with
  | nil => cases h
  | cons t r => exact ⟨t, r, rfl⟩
theorem drop_takes {α : Type} {k : Int} {u : List UInt8} {s : Ss} (h : isAt k u s.ts = true) (x : α) : Takes 1 s (.ok x s.drop) := fun y s' e => by
  injection e with _ e
  obtain ⟨t, r, hs⟩ := isAt_cons h
  subst e
  show s.ts.tail.length + 1 ≤ _
  rw [hs]
  exact Nat.le_refl _
theorem mustR_takes (k : Int) (u : List UInt8) (s : Ss) : Takes 1 s (mustR k u s) := by
  unfold mustR
  split
  · exact drop_takes (by assumption) _
  · exact wrongR_takes _ _ _
theorem nameR_takes (s : Ss) : Takes 1 s (nameR s) := by
  unfold nameR
  split
  · exact Takes.bad _ _ _ _
  · rename_i t r hs
    split
    · exact .next (k := 0) hs (.ok _ _)
    · exact wrongR_takes _ _ _
theorem numR_takes (s : Ss) : Takes 1 s (numR s) := by
  unfold numR
  split
  · exact Takes.bad _ _ _ _
  · rename_i t r hs
    split
    · exact .next (k := 0) hs (.ok _ _)
    · exact wrongR_takes _ _ _
theorem exprR_takes (s : Ss) : Takes 1 s (exprR s) := fun y s' h => by
  unfold exprR at h
  split at h
  · cases h
  · cases h
  · rename_i x r e
    injection h with _ h
    subst h
    exact Pf_len e
/-- Words. -/
def wSet : List UInt8 := [115, 101, 116]
def wRaise : List UInt8 := [114, 97, 105, 115, 101]
def wEmit : List UInt8 := [101, 109, 105, 116]
def wOn : List UInt8 := [111, 110]
def wAlways : List UInt8 := [97, 108, 119, 97, 121, 115]
def wAfter : List UInt8 := [97, 102, 116, 101, 114]
def wInitial : List UInt8 := [105, 110, 105, 116, 105, 97, 108]
def wEnter : List UInt8 := [101, 110, 116, 101, 114]
def wLeave : List UInt8 := [108, 101, 97, 118, 101]
def wState : List UInt8 := [115, 116, 97, 116, 101]
def wParallel : List UInt8 := [112, 97, 114, 97, 108, 108, 101, 108]
def wHistory : List UInt8 := [104, 105, 115, 116, 111, 114, 121]
def wDeep : List UInt8 := [100, 101, 101, 112]
def wVar : List UInt8 := [118, 97, 114]
def wChart : List UInt8 := [99, 104, 97, 114, 116]

/-- Which of some words stands there, from one on; 0: none. -/
def wordAt (ts : List Tk) : List (List UInt8) → Nat → Nat
  | [], _ => 0
  | u :: l, i => if isAt 2 u ts = true then i else wordAt ts l (i + 1)
def actK (ts : List Tk) : Nat := wordAt ts [wSet, wRaise, wEmit] 1
def moveK (ts : List Tk) : Nat := wordAt ts [wOn, wAlways, wAfter] 1
def nodeK (ts : List Tk) : Nat := wordAt ts [wState, wParallel, wHistory, wDeep] 1

theorem wordAt_cons {ts : List Tk} : ∀ {l : List (List UInt8)} {i : Nat}, wordAt ts l i ≠ 0 → ∃ t r, ts = t :: r
  | [], _, h => absurd rfl h
  | u :: l, i, h => by
    unfold wordAt at h
    split at h
    · exact isAt_cons (by assumption)
    · exact wordAt_cons h

theorem dropW_takes {α : Type} {s : Ss} {l : List (List UInt8)} {i k n m a : Nat} (h : wordAt s.ts l i ≠ 0) {e : Rs α} (he : Takes k ⟨s.ts.tail, n, m, a⟩ e) : Takes (k + 1) s e := by
  obtain ⟨t, r, hs⟩ := wordAt_cons h
  rw [hs, List.tail_cons] at he
  exact .next hs he

/-- Behind an act's word: its kind, its place. -/
def actV (k : Nat) (s : Ss) : Rs (Option Ex) :=
  if k = 2 then .ok none s else (mustR 4 [61] s).bind fun _ s => (exprR s).bind fun x s => .ok (some x) s
def actR (s : Ss) : Rs SyAct :=
  if actK s.ts = 0 then wrongR s.ts
  else if s.a = 400 then stopR 2 s.ts
  else (nameR ⟨s.ts.tail, s.n, s.m, s.a + 1⟩).bind fun x s1 => (actV (actK s.ts) s1).bind fun v s2 => (mustR 4 [59] s2).bind fun _ s3 =>
    .ok ⟨actK s.ts, x.1, v, atOf s.ts⟩ s3

theorem actV_takes (k : Nat) (s : Ss) : Takes 0 s (actV k s) := by
  unfold actV
  split
  · exact .ok _ _
  · exact (Takes.bind (mustR_takes _ _ _) fun _ s1 _ => Takes.bind (exprR_takes s1) fun _ s2 _ => Takes.ok _ _).mono (by omega)
theorem actR_takes (s : Ss) : Takes 1 s (actR s) := by
  unfold actR
  split
  · exact wrongR_takes _ _ _
  · rename_i h0
    split
    · exact stopR_takes _ _ _ _
    · exact (dropW_takes h0 (Takes.bind (nameR_takes _) fun _ _ _ => Takes.bind (actV_takes _ _) fun _ _ _ => Takes.bind (mustR_takes _ _ _) fun _ _ _ => Takes.ok _ _)).mono (by omega)
/-- Acts between braces. -/
def blkS (l : List SyAct) (s : Ss) : Rs (List SyAct × Bool) :=
  if isAt 4 [125] s.ts = true then .ok (l, false) s.drop else (actR s).bind fun x s' => .ok (l ++ [x], true) s'
def blockR (s : Ss) : Rs (List SyAct) := (mustR 4 [123] s).bind fun _ s' => It blkS [] s'

theorem blkS_keeps : Keeps blkS := fun x s => by
  unfold blkS
  split
  · exact (drop_takes (by assumption) _).mono (by omega)
  · exact (Takes.bind (actR_takes s) fun _ _ _ => Takes.ok _ _).mono (by omega)
theorem blockR_takes (s : Ss) : Takes 1 s (blockR s) := (Takes.bind (mustR_takes _ _ s) fun _ _ _ => It_takes blkS_keeps _ _).mono (by omega)
/-- A move's parts. -/
def evR (k : Nat) (s : Ss) : Rs (List UInt8) := if k = 1 then (nameR s).bind fun x s => .ok x.1 s else .ok [] s
def waitR (k : Nat) (s : Ss) : Rs Int := if k = 3 then numR s else .ok 0 s
def guardR (s : Ss) : Rs (Option Ex) := if isAt 4 [91] s.ts = true then (exprR s.drop).bind fun x s => (mustR 4 [93] s).bind fun _ s => .ok (some x) s else .ok none s
def actsR (s : Ss) : Rs (List SyAct) := if isAt 4 [123] s.ts = true then blockR s else .ok [] s
def tgtS (l : List (List UInt8)) (s : Ss) : Rs (List (List UInt8) × Bool) := (nameR s).bind fun x s => if isAt 4 [44] s.ts = true then .ok (l ++ [x.1], true) s.drop else .ok (l ++ [x.1], false) s
def tgtR (s : Ss) : Rs (List (List UInt8)) := if isAt 4 [45, 62] s.ts = true then It tgtS [] s.drop else .ok [] s

theorem drop_le (s : Ss) : s.drop.ts.length ≤ s.ts.length := by
  show s.ts.tail.length ≤ _
  rw [List.length_tail]
  omega
theorem Takes.dropped {α : Type} {k : Nat} {s : Ss} {e : Rs α} (h : Takes k s.drop e) : Takes k s e := fun x s' hx => by
  have := h x s' hx
  have := drop_le s
  omega
theorem tgtS_keeps : Keeps tgtS := fun x s => by
  refine (Takes.bind (l := 0) (nameR_takes s) fun z s1 _ => ?_).mono (by omega)
  split
  · exact (Takes.ok _ _).dropped
  · exact .ok _ _
theorem evR_takes (k : Nat) (s : Ss) : Takes 0 s (evR k s) := by
  unfold evR
  split
  · exact (Takes.bind (nameR_takes s) fun _ _ _ => Takes.ok _ _).mono (by omega)
  · exact .ok _ _
theorem waitR_takes (k : Nat) (s : Ss) : Takes 0 s (waitR k s) := by
  unfold waitR
  split
  · exact (numR_takes s).mono (by omega)
  · exact .ok _ _
theorem guardR_takes (s : Ss) : Takes 0 s (guardR s) := by
  unfold guardR
  split
  · exact ((Takes.bind (exprR_takes _) fun _ _ _ => Takes.bind (mustR_takes _ _ _) fun _ _ _ => Takes.ok _ _).mono (by omega)).dropped
  · exact .ok _ _
theorem actsR_takes (s : Ss) : Takes 0 s (actsR s) := by
  unfold actsR
  split
  · exact (blockR_takes s).mono (by omega)
  · exact .ok _ _
theorem tgtR_takes (s : Ss) : Takes 0 s (tgtR s) := by
  unfold tgtR
  split
  · exact (It_takes tgtS_keeps _ _).dropped
  · exact .ok _ _
/-- A move, whose word stands there. -/
def moveR (s : Ss) : Rs SyMove :=
  if s.m = 200 then stopR 2 s.ts
  else (evR (moveK s.ts) ⟨s.ts.tail, s.n, s.m + 1, s.a⟩).bind fun e s1 => (waitR (moveK s.ts) s1).bind fun w s2 => (guardR s2).bind fun g s3 =>
    (actsR s3).bind fun l s4 => (tgtR s4).bind fun q s5 => (mustR 4 [59] s5).bind fun _ s6 => .ok ⟨moveK s.ts, e, w, g.isSome, g, l, q, atOf s.ts⟩ s6

theorem moveR_takes (s : Ss) : Takes 1 s (moveR s) := by
  unfold moveR
  split
  · exact stopR_takes _ _ _ _
  · refine (Takes.bind (k := 0) (l := 1) (s := ⟨s.ts.tail, s.n, s.m + 1, s.a⟩) (evR_takes _ _) fun _ _ _ => ?_).le_of ?_
    · exact (Takes.bind (waitR_takes _ _) fun _ _ _ => Takes.bind (guardR_takes _) fun _ _ _ => Takes.bind (actsR_takes _) fun _ _ _ => Takes.bind (tgtR_takes _) fun _ _ _ => Takes.bind (mustR_takes _ _ _) fun _ _ _ => Takes.ok _ _).mono (by omega)
    · show s.ts.tail.length ≤ _
      rw [List.length_tail]
      omega
/-- What a body has so far: the clauses, which of them there were, the moves. -/
structure SyB where
  initial : List UInt8
  enter : List SyAct
  leave : List SyAct
  moves : List SyMove
  hi : Bool
  he : Bool
  hl : Bool
def SyB.none : SyB := ⟨[], [], [], [], false, false, false⟩

def initS (b : SyB) (s : Ss) : Rs (SyB × Bool) :=
  if b.hi = true then wrongR s.ts else (nameR s.drop).bind fun x s1 => (mustR 4 [59] s1).bind fun _ s2 => .ok (⟨x.1, b.enter, b.leave, b.moves, true, b.he, b.hl⟩, true) s2
def enterS (b : SyB) (s : Ss) : Rs (SyB × Bool) :=
  if b.he = true then wrongR s.ts else (blockR s.drop).bind fun l s1 => .ok (⟨b.initial, l, b.leave, b.moves, b.hi, true, b.hl⟩, true) s1
def leaveS (b : SyB) (s : Ss) : Rs (SyB × Bool) :=
  if b.hl = true then wrongR s.ts else (blockR s.drop).bind fun l s1 => .ok (⟨b.initial, b.enter, l, b.moves, b.hi, b.he, true⟩, true) s1
def movS (b : SyB) (s : Ss) : Rs (SyB × Bool) :=
  if moveK s.ts = 0 then .ok (b, false) s else (moveR s).bind fun x s1 => .ok (⟨b.initial, b.enter, b.leave, b.moves ++ [x], b.hi, b.he, b.hl⟩, true) s1

/-- One clause more. -/
def clauseS (b : SyB) (s : Ss) : Rs (SyB × Bool) :=
  if isAt 2 wInitial s.ts = true then initS b s
  else if isAt 2 wEnter s.ts = true then enterS b s
  else if isAt 2 wLeave s.ts = true then leaveS b s
  else movS b s

theorem drop_lt {s : Ss} {t : Tk} {r : List Tk} (h : s.ts = t :: r) : s.drop.ts.length + 1 = s.ts.length := by
  show s.ts.tail.length + 1 = _
  rw [h]
  rfl

/-- A round: what it takes, if it goes on and if it does not. -/
def Steps {σ : Type} (s : Ss) (e : Rs (σ × Bool)) : Prop := ∀ y b s', e = .ok (y, b) s' → s'.ts.length + (if b = true then 1 else 0) ≤ s.ts.length
theorem Steps.of {σ : Type} {s : Ss} {e : Rs (σ × Bool)} (h : Takes 1 s e) : Steps s e := fun y b s' e' => by
  have := h _ _ e'
  split <;> omega
theorem Steps.stop {σ : Type} (s : Ss) (x : σ) : Steps s (.ok (x, false) s) := fun y b s' e' => by
  injection e' with e1 e2
  injection e1 with _ e1
  subst e1 e2
  exact Nat.le_refl _

theorem clauseS_steps (b : SyB) (s : Ss) : Steps s (clauseS b s) := by
  unfold clauseS
  split
  · obtain ⟨t, r, hs⟩ := isAt_cons (by assumption)
    have hd := drop_lt hs
    unfold initS
    split
    · exact .of (wrongR_takes _ _ _)
    · exact .of ((Takes.bind (nameR_takes _) fun _ _ _ => Takes.bind (mustR_takes _ _ _) fun _ _ _ => Takes.ok _ _).mono (by omega) |>.le_of (drop_le s))
  · split
    · obtain ⟨t, r, hs⟩ := isAt_cons (by assumption)
      unfold enterS
      split
      · exact .of (wrongR_takes _ _ _)
      · exact .of ((Takes.bind (blockR_takes _) fun _ _ _ => Takes.ok _ _).mono (by omega) |>.le_of (drop_le s))
    · split
      · unfold leaveS
        split
        · exact .of (wrongR_takes _ _ _)
        · exact .of ((Takes.bind (blockR_takes _) fun _ _ _ => Takes.ok _ _).mono (by omega) |>.le_of (drop_le s))
      · unfold movS
        split
        · exact .stop _ _
        · exact .of ((Takes.bind (moveR_takes _) fun _ _ _ => Takes.ok _ _).mono (by omega))
theorem goes_of {σ : Type} {stp : σ → Ss → Rs (σ × Bool)} (h : ∀ x s, Steps s (stp x s)) : Goes stp := fun x s y s' e => by
  have := h x s y true s' e
  rw [if_pos rfl] at this
  omega
theorem keeps_of {σ : Type} {stp : σ → Ss → Rs (σ × Bool)} (h : ∀ x s, Steps s (stp x s)) : Keeps stp := fun x s y s' e => by
  have := h x s y.1 y.2 s' e
  omega
theorem clauseS_goes : Goes clauseS := goes_of clauseS_steps
theorem clauseS_keeps : Keeps clauseS := keeps_of clauseS_steps

/-- One node more. -/
def kidS (nd : Ss → Rs SyNode) (l : List SyNode) (s : Ss) : Rs (List SyNode × Bool) :=
  if nodeK s.ts = 0 then .ok (l, false) s else (nd s).bind fun x s1 => .ok (l ++ [x], true) s1
theorem kidS_steps {nd : Ss → Rs SyNode} (h : ∀ s, Takes 1 s (nd s)) (l : List SyNode) (s : Ss) : Steps s (kidS nd l s) := by
  unfold kidS
  split
  · exact .stop _ _
  · exact .of ((Takes.bind (h s) fun _ _ _ => Takes.ok _ _).mono (by omega))
theorem kidS_goes {nd : Ss → Rs SyNode} (h : ∀ s, Takes 1 s (nd s)) : Goes (kidS nd) := goes_of (kidS_steps h)
theorem kidS_keeps {nd : Ss → Rs SyNode} (h : ∀ s, Takes 1 s (nd s)) : Keeps (kidS nd) := keeps_of (kidS_steps h)
/-- A body: clauses, then nodes. -/
def bodyR (nd : Ss → Rs SyNode) (s : Ss) : Rs (SyB × List SyNode) := (It clauseS SyB.none s).bind fun b s1 => (It (kidS nd) [] s1).bind fun l s2 => .ok (b, l) s2
theorem bodyR_takes {nd : Ss → Rs SyNode} (h : ∀ s, Takes 1 s (nd s)) (s : Ss) : Takes 0 s (bodyR nd s) :=
  Takes.bind (k := 0) (l := 0) (It_takes clauseS_keeps _ s) fun _ _ _ => Takes.bind (k := 0) (l := 0) (It_takes (kidS_keeps h) _ _) fun _ _ _ => Takes.ok _ _
/-- A node's name, for which there must be room: d more nodes within each other may stand there. -/
def namedR (d : Nat) (s : Ss) : Rs (List UInt8 × Int) := match s.ts with
  | [] => .bad 0 0
  | t :: r => if t.kind = 1 then (if s.n = 64 then .bad 2 t.at_ else if d = 0 then .bad 21 t.at_ else .ok (t.text, t.at_) ⟨r, s.n + 1, s.m, s.a⟩) else wrongR (t :: r)
theorem namedR_takes (d : Nat) (s : Ss) : Takes 1 s (namedR d s) := by
  unfold namedR
  split
  · exact Takes.bad _ _ _ _
  · rename_i t r hs
    split
    · split
      · exact Takes.bad _ _ _ _
      · split
        · exact Takes.bad _ _ _ _
        · exact .next (k := 0) hs (.ok _ _)
    · exact wrongR_takes _ _ _
theorem namedR_zero (s : Ss) : ∃ c p, namedR 0 s = .bad c p := by
  unfold namedR
  split
  · exact ⟨_, _, rfl⟩
  · split
    · split
      · exact ⟨_, _, rfl⟩
      · exact ⟨_, _, if_pos rfl⟩
    · rw [wrongR_cons]
      split <;> exact ⟨_, _, rfl⟩

def histR (k : Nat) (x : List UInt8 × Int) (s : Ss) : Rs SyNode :=
  (mustR 4 [45, 62] s).bind fun _ s2 => (nameR s2).bind fun y s3 => (mustR 4 [59] s3).bind fun _ s4 => .ok (.mk k x.1 [] y.1 [] [] [] [] x.2) s4
def nodeOf (k : Nat) (x : List UInt8 × Int) (z : SyB × List SyNode) : SyNode := .mk k x.1 z.1.initial [] z.1.enter z.1.leave z.1.moves z.2 x.2
def innerR (nd : Ss → Rs SyNode) (k : Nat) (x : List UInt8 × Int) (s : Ss) : Rs SyNode :=
  (mustR 4 [123] s).bind fun _ s2 => (bodyR nd s2).bind fun z s3 => (mustR 4 [125] s3).bind fun _ s4 => .ok (nodeOf k x z) s4

/-- A node, whose word stands there, where d more may stand within each other. -/
def nodeR : Nat → Ss → Rs SyNode
  | 0, s => (namedR 0 s.drop).bind fun _ _ => .out
  | d + 1, s => (namedR (d + 1) s.drop).bind fun x s1 => if 3 ≤ nodeK s.ts then histR (nodeK s.ts) x s1 else innerR (nodeR d) (nodeK s.ts) x s1

theorem nodeR_takes : ∀ d s, Takes 1 s (nodeR d s)
  | 0, s => by
    unfold nodeR
    obtain ⟨c, p, e⟩ := namedR_zero s.drop
    rw [e]
    exact Takes.bad _ _ _ _
  | d + 1, s => by
    unfold nodeR
    refine Takes.le_of (Takes.mono (Takes.bind (k := 1) (l := 0) (namedR_takes _ _) fun x s1 _ => ?_) (by omega)) (drop_le s)
    split
    · exact (Takes.bind (mustR_takes _ _ _) fun _ _ _ => Takes.bind (nameR_takes _) fun _ _ _ => Takes.bind (mustR_takes _ _ _) fun _ _ _ => Takes.ok _ _).mono (by omega)
    · exact (Takes.bind (mustR_takes _ _ _) fun _ _ _ => Takes.bind (bodyR_takes (nodeR_takes d) _) fun _ _ _ => Takes.bind (mustR_takes _ _ _) fun _ _ _ => Takes.ok _ _).mono (by omega)
/-- A variable's name, for which there must be room. -/
def vnameR (k : Nat) (s : Ss) : Rs (List UInt8 × Int) := match s.ts with
  | [] => .bad 0 0
  | t :: r => if t.kind = 1 then (if k = 16 then .bad 2 t.at_ else .ok (t.text, t.at_) ⟨r, s.n, s.m, s.a⟩) else wrongR (t :: r)
def vnumR (s : Ss) : Rs Int := if isAt 4 [45] s.ts = true then (numR s.drop).bind fun x s => .ok (-x) s else numR s
def varS (l : List SyVar) (s : Ss) : Rs (List SyVar × Bool) :=
  if isAt 2 wVar s.ts = true then (vnameR l.length s.drop).bind fun x s1 => (mustR 4 [61] s1).bind fun _ s2 => (vnumR s2).bind fun v s3 => (mustR 4 [59] s3).bind fun _ s4 => .ok (l ++ [⟨x.1, v, x.2⟩], true) s4
  else .ok (l, false) s

theorem vnameR_takes (k : Nat) (s : Ss) : Takes 1 s (vnameR k s) := by
  unfold vnameR
  split
  · exact Takes.bad _ _ _ _
  · rename_i t r hs
    split
    · split
      · exact Takes.bad _ _ _ _
      · exact .next (k := 0) hs (.ok _ _)
    · exact wrongR_takes _ _ _
theorem vnumR_takes (s : Ss) : Takes 1 s (vnumR s) := by
  unfold vnumR
  split
  · exact ((Takes.bind (numR_takes _) fun _ _ _ => Takes.ok _ _).mono (by omega)).dropped
  · exact numR_takes s
theorem varS_steps (l : List SyVar) (s : Ss) : Steps s (varS l s) := by
  unfold varS
  split
  · exact .of (((Takes.bind (vnameR_takes _ _) fun _ _ _ => Takes.bind (mustR_takes _ _ _) fun _ _ _ => Takes.bind (vnumR_takes _) fun _ _ _ => Takes.bind (mustR_takes _ _ _) fun _ _ _ => Takes.ok _ _).mono (by omega)).dropped)
  · exact .stop _ _
theorem varS_goes : Goes varS := goes_of varS_steps
/-- The chart. -/
def endR (c : SyChart) (s : Ss) : Rs SyChart := if kindOf s.ts = 5 then .ok c s else wrongR s.ts
def chartR (s : Ss) : Rs SyChart :=
  (mustR 2 wChart s).bind fun _ s1 => (namedR 12 s1).bind fun x s2 => (mustR 4 [123] s2).bind fun _ s3 => (It varS [] s3).bind fun l s4 =>
    (bodyR (nodeR 11) s4).bind fun z s5 => (mustR 4 [125] s5).bind fun _ s6 => endR ⟨l, nodeOf 1 x z⟩ s6
def syR (ts : List Tk) : Rs SyChart := chartR ⟨ts, 0, 0, 0⟩

def Ss.er (s : Ss) : Ss := ⟨s.ts.map Tk.er, s.n, s.m, s.a⟩
def Rs.er {α : Type} (f : α → α) : Rs α → Rs α
  | .out => .out
  | .bad c _ => .bad c 0
  | .ok x s => .ok (f x) s.er

theorem er_bind {α β : Type} {f : α → α} {h : β → β} {e' e : Rs α} {g g' : α → Ss → Rs β} (he : e' = e.er f) (hg : ∀ x s, g' (f x) s.er = (g x s).er h) : e'.bind g' = (e.bind g).er h := by
  subst he
  cases e with
  | out => rfl
  | bad c p => rfl
  | ok x s => exact hg x s

def pairE {σ : Type} (f : σ → σ) (y : σ × Bool) : σ × Bool := (f y.1, y.2)
theorem itF_er {σ : Type} {stp : σ → Ss → Rs (σ × Bool)} {f : σ → σ} (h : ∀ x s, stp (f x) s.er = (stp x s).er (pairE f)) : ∀ k x s, itF stp k (f x) s.er = (itF stp k x s).er f
  | 0, _, _ => rfl
  | k + 1, x, s => by
    rw [itF, itF]
    refine er_bind (h x s) fun y s' => ?_
    show (if y.2 = true then _ else _) = _
    split
    · exact itF_er h k _ _
    · rfl
theorem It_er {σ : Type} {stp : σ → Ss → Rs (σ × Bool)} {f : σ → σ} (h : ∀ x s, stp (f x) s.er = (stp x s).er (pairE f)) (x : σ) (s : Ss) : It stp (f x) s.er = (It stp x s).er f := by
  have := itF_er h (s.ts.length + 1) x s
  unfold It
  rw [← this]
  show itF stp ((s.ts.map Tk.er).length + 1) _ _ = _
  rw [List.length_map]

def SyVar.er (v : SyVar) : SyVar := ⟨v.name, v.num, 0⟩
def SyAct.er (x : SyAct) : SyAct := ⟨x.kind, x.name, x.value.map Ex.er, 0⟩
def SyMove.er (x : SyMove) : SyMove := ⟨x.kind, x.event, x.wait, x.guarded, x.guard.map Ex.er, x.acts.map SyAct.er, x.targets, 0⟩
mutual
def SyNode.er : SyNode → SyNode
  | .mk k n i d e l m kids _ => .mk k n i d (e.map SyAct.er) (l.map SyAct.er) (m.map SyMove.er) (SyNode.ers kids) 0
def SyNode.ers : List SyNode → List SyNode
  | [] => []
  | x :: l => x.er :: SyNode.ers l
end
theorem ers_map : ∀ l : List SyNode, SyNode.ers l = l.map SyNode.er
  | [] => by rw [SyNode.ers]; rfl
  | x :: l => by rw [SyNode.ers, ers_map l]; rfl
def SyChart.er (c : SyChart) : SyChart := ⟨c.vars.map SyVar.er, c.root.er⟩
def SyB.er (b : SyB) : SyB := ⟨b.initial, b.enter.map SyAct.er, b.leave.map SyAct.er, b.moves.map SyMove.er, b.hi, b.he, b.hl⟩
def nmE (x : List UInt8 × Int) : List UInt8 × Int := (x.1, 0)

theorem isAt_er (k : Int) (u : List UInt8) (ts : List Tk) : isAt k u (ts.map Tk.er) = isAt k u ts := by
  cases ts with
  | nil => rfl
  | cons t r => rfl
theorem isAt_erS (k : Int) (u : List UInt8) (s : Ss) : isAt k u s.er.ts = isAt k u s.ts := isAt_er k u s.ts
theorem kindOf_er (s : Ss) : kindOf s.er.ts = kindOf s.ts := by
  show kindOf (s.ts.map Tk.er) = _
  cases s.ts with
  | nil => rfl
  | cons t r => rfl
theorem atOf_er (s : Ss) : atOf s.er.ts = 0 := by
  show atOf (s.ts.map Tk.er) = _
  cases s.ts with
  | nil => rfl
  | cons t r => rfl
theorem wordAt_er (s : Ss) : ∀ (l : List (List UInt8)) (i : Nat), wordAt s.er.ts l i = wordAt s.ts l i
  | [], _ => rfl
  | u :: l, i => by rw [wordAt, wordAt, isAt_erS, wordAt_er s l]
theorem actK_er (s : Ss) : actK s.er.ts = actK s.ts := wordAt_er s _ _
theorem moveK_er (s : Ss) : moveK s.er.ts = moveK s.ts := wordAt_er s _ _
theorem nodeK_er (s : Ss) : nodeK s.er.ts = nodeK s.ts := wordAt_er s _ _
theorem wrongR_er {α : Type} (f : α → α) (s : Ss) : (wrongR s.er.ts : Rs α) = (wrongR s.ts).er f := by
  show wrongR (s.ts.map Tk.er) = _
  cases s.ts with
  | nil => rfl
  | cons t r =>
    rw [List.map_cons, wrongR_cons, wrongR_cons]
    show (if t.kind = 5 then Rs.bad 3 0 else Rs.bad 4 0) = _
    split <;> rfl
theorem stopR_er {α : Type} (f : α → α) (c : Int) (s : Ss) : (stopR c s.er.ts : Rs α) = (stopR c s.ts).er f := by
  show stopR c (s.ts.map Tk.er) = _
  cases s.ts with
  | nil => rfl
  | cons t r => rfl
theorem drop_er (s : Ss) : s.er.drop = s.drop.er := by
  show Ss.mk (s.ts.map Tk.er).tail _ _ _ = Ss.mk (s.ts.tail.map Tk.er) _ _ _
  rw [List.map_tail]
  rfl

theorem mustR_er (k : Int) (u : List UInt8) (s : Ss) : mustR k u s.er = (mustR k u s).er id := by
  unfold mustR
  rw [isAt_erS]
  split
  · rw [drop_er]; rfl
  · exact wrongR_er _ s
theorem nameR_er (s : Ss) : nameR s.er = (nameR s).er nmE := by
  obtain ⟨ts, n, m, a⟩ := s
  cases ts with
  | nil => rfl
  | cons t r =>
    have h := wrongR_er nmE ⟨t :: r, n, m, a⟩
    show (if t.kind = 1 then Rs.ok (t.text, 0) ⟨r.map Tk.er, n, m, a⟩ else wrongR ((t :: r).map Tk.er)) = (if t.kind = 1 then Rs.ok (t.text, t.at_) ⟨r, n, m, a⟩ else wrongR (t :: r)).er nmE
    split
    · rfl
    · exact h
theorem numR_er (s : Ss) : numR s.er = (numR s).er id := by
  obtain ⟨ts, n, m, a⟩ := s
  cases ts with
  | nil => rfl
  | cons t r =>
    have h := wrongR_er (id : Int → Int) ⟨t :: r, n, m, a⟩
    show (if t.kind = 3 then Rs.ok t.num ⟨r.map Tk.er, n, m, a⟩ else wrongR ((t :: r).map Tk.er)) = (if t.kind = 3 then Rs.ok t.num ⟨r, n, m, a⟩ else wrongR (t :: r)).er id
    split
    · rfl
    · exact h
theorem exprR_er (s : Ss) : exprR s.er = (exprR s).er Ex.er := by
  unfold exprR
  have h : Pf 0 0 s.er.ts = (Pf 0 0 s.ts).er := Pf_er 0 0 s.ts
  rw [h]
  cases Pf 0 0 s.ts <;> rfl
theorem actV_er (k : Nat) (s : Ss) : actV k s.er = (actV k s).er (Option.map Ex.er) := by
  unfold actV
  split
  · rfl
  · exact er_bind (mustR_er _ _ s) fun _ s1 => er_bind (exprR_er s1) fun _ _ => rfl
theorem tail_er (s : Ss) (n m a : Nat) : Ss.mk s.er.ts.tail n m a = (Ss.mk s.ts.tail n m a).er := by
  show Ss.mk (s.ts.map Tk.er).tail _ _ _ = Ss.mk (s.ts.tail.map Tk.er) _ _ _
  rw [List.map_tail]
theorem actR_er (s : Ss) : actR s.er = (actR s).er SyAct.er := by
  unfold actR
  rw [actK_er, atOf_er]
  split
  · exact wrongR_er _ s
  · show (if s.a = 400 then _ else _) = _
    split
    · exact stopR_er _ _ s
    · rw [tail_er]
      exact er_bind (nameR_er _) fun _ _ => er_bind (actV_er _ _) fun _ _ => er_bind (mustR_er _ _ _) fun _ _ => rfl
theorem blkS_er (l : List SyAct) (s : Ss) : blkS (l.map SyAct.er) s.er = (blkS l s).er (pairE (List.map SyAct.er)) := by
  unfold blkS
  rw [isAt_erS]
  split
  · rw [drop_er]; rfl
  · refine er_bind (actR_er s) fun x s' => ?_
    show _ = Rs.ok ((l ++ [x]).map SyAct.er, true) s'.er
    rw [List.map_append]
    rfl
theorem blockR_er (s : Ss) : blockR s.er = (blockR s).er (List.map SyAct.er) := er_bind (mustR_er _ _ s) fun _ s1 => It_er blkS_er [] s1
theorem evR_er (k : Nat) (s : Ss) : evR k s.er = (evR k s).er id := by
  unfold evR
  split
  · exact er_bind (nameR_er s) fun _ _ => rfl
  · rfl
theorem waitR_er (k : Nat) (s : Ss) : waitR k s.er = (waitR k s).er id := by
  unfold waitR
  split
  · exact numR_er s
  · rfl
theorem guardR_er (s : Ss) : guardR s.er = (guardR s).er (Option.map Ex.er) := by
  unfold guardR
  rw [isAt_erS]
  split
  · rw [drop_er]
    exact er_bind (exprR_er _) fun _ _ => er_bind (mustR_er _ _ _) fun _ _ => rfl
  · rfl
theorem actsR_er (s : Ss) : actsR s.er = (actsR s).er (List.map SyAct.er) := by
  unfold actsR
  rw [isAt_erS]
  split
  · exact blockR_er s
  · rfl
theorem tgtS_er (l : List (List UInt8)) (s : Ss) : tgtS (id l) s.er = (tgtS l s).er (pairE id) := by
  refine er_bind (nameR_er s) fun x s1 => ?_
  rw [isAt_erS]
  split
  · rw [drop_er]; rfl
  · rfl
theorem tgtR_er (s : Ss) : tgtR s.er = (tgtR s).er id := by
  unfold tgtR
  rw [isAt_erS]
  split
  · rw [drop_er]
    exact It_er tgtS_er [] s.drop
  · rfl
theorem isSome_map (g : Option Ex) : (g.map Ex.er).isSome = g.isSome := by cases g <;> rfl
theorem moveR_er (s : Ss) : moveR s.er = (moveR s).er SyMove.er := by
  unfold moveR
  rw [moveK_er, atOf_er]
  show (if s.m = 200 then _ else _) = _
  split
  · exact stopR_er _ _ s
  · rw [tail_er]
    refine er_bind (evR_er _ _) fun e s1 => er_bind (waitR_er _ _) fun w s2 => er_bind (guardR_er _) fun g s3 => er_bind (actsR_er _) fun l s4 => er_bind (tgtR_er _) fun q s5 => er_bind (mustR_er _ _ _) fun _ s6 => ?_
    rw [isSome_map]
    rfl

theorem clauseS_er (b : SyB) (s : Ss) : clauseS b.er s.er = (clauseS b s).er (pairE SyB.er) := by
  unfold clauseS
  rw [isAt_erS, isAt_erS, isAt_erS]
  split
  · unfold initS
    show (if b.hi = true then _ else _) = _
    split
    · exact wrongR_er _ s
    · rw [drop_er]
      exact er_bind (nameR_er _) fun _ _ => er_bind (mustR_er _ _ _) fun _ _ => rfl
  · split
    · unfold enterS
      show (if b.he = true then _ else _) = _
      split
      · exact wrongR_er _ s
      · rw [drop_er]
        exact er_bind (blockR_er _) fun _ _ => rfl
    · split
      · unfold leaveS
        show (if b.hl = true then _ else _) = _
        split
        · exact wrongR_er _ s
        · rw [drop_er]
          exact er_bind (blockR_er _) fun _ _ => rfl
      · unfold movS
        rw [moveK_er]
        split
        · rfl
        · refine er_bind (moveR_er s) fun x s1 => ?_
          show _ = Rs.ok (SyB.er ⟨b.initial, b.enter, b.leave, b.moves ++ [x], b.hi, b.he, b.hl⟩, true) s1.er
          unfold SyB.er
          rw [List.map_append]
          rfl
theorem kidS_er {nd : Ss → Rs SyNode} (h : ∀ s, nd s.er = (nd s).er SyNode.er) (l : List SyNode) (s : Ss) : kidS nd (l.map SyNode.er) s.er = (kidS nd l s).er (pairE (List.map SyNode.er)) := by
  unfold kidS
  rw [nodeK_er]
  split
  · rfl
  · refine er_bind (h s) fun x s1 => ?_
    show _ = Rs.ok ((l ++ [x]).map SyNode.er, true) s1.er
    rw [List.map_append]
    rfl
def bdE (z : SyB × List SyNode) : SyB × List SyNode := (z.1.er, z.2.map SyNode.er)
theorem bodyR_er {nd : Ss → Rs SyNode} (h : ∀ s, nd s.er = (nd s).er SyNode.er) (s : Ss) : bodyR nd s.er = (bodyR nd s).er bdE :=
  er_bind (It_er clauseS_er SyB.none s) fun _ s1 => er_bind (It_er (kidS_er h) [] s1) fun _ _ => rfl
theorem namedR_er (d : Nat) (s : Ss) : namedR d s.er = (namedR d s).er nmE := by
  obtain ⟨ts, n, m, a⟩ := s
  cases ts with
  | nil => rfl
  | cons t r =>
    have h := wrongR_er nmE ⟨t :: r, n, m, a⟩
    show (if t.kind = 1 then (if n = 64 then Rs.bad 2 0 else if d = 0 then .bad 21 0 else Rs.ok (t.text, 0) ⟨r.map Tk.er, n + 1, m, a⟩) else wrongR ((t :: r).map Tk.er)) = (if t.kind = 1 then (if n = 64 then Rs.bad 2 t.at_ else if d = 0 then .bad 21 t.at_ else Rs.ok (t.text, t.at_) ⟨r, n + 1, m, a⟩) else wrongR (t :: r)).er nmE
    split
    · split
      · rfl
      · split <;> rfl
    · exact h
theorem nodeOf_er (k : Nat) (x : List UInt8 × Int) (z : SyB × List SyNode) : nodeOf k (nmE x) (bdE z) = (nodeOf k x z).er := by
  unfold nodeOf
  rw [SyNode.er, ers_map]
  rfl
theorem nodeR_er : ∀ d s, nodeR d s.er = (nodeR d s).er SyNode.er
  | 0, s => by
    unfold nodeR
    rw [drop_er]
    exact er_bind (namedR_er _ _) fun _ _ => rfl
  | d + 1, s => by
    unfold nodeR
    rw [drop_er, nodeK_er]
    refine er_bind (namedR_er _ _) fun x s1 => ?_
    split
    · refine er_bind (mustR_er _ _ _) fun _ _ => er_bind (nameR_er _) fun _ _ => er_bind (mustR_er _ _ _) fun _ _ => ?_
      rw [Rs.er, SyNode.er, ers_map]
      rfl
    · refine er_bind (mustR_er _ _ _) fun _ _ => er_bind (bodyR_er (nodeR_er d) _) fun _ _ => er_bind (mustR_er _ _ _) fun _ _ => ?_
      rw [nodeOf_er]
      rfl
theorem vnameR_er (k : Nat) (s : Ss) : vnameR k s.er = (vnameR k s).er nmE := by
  obtain ⟨ts, n, m, a⟩ := s
  cases ts with
  | nil => rfl
  | cons t r =>
    have h := wrongR_er nmE ⟨t :: r, n, m, a⟩
    show (if t.kind = 1 then (if k = 16 then Rs.bad 2 0 else Rs.ok (t.text, 0) ⟨r.map Tk.er, n, m, a⟩) else wrongR ((t :: r).map Tk.er)) = (if t.kind = 1 then (if k = 16 then Rs.bad 2 t.at_ else Rs.ok (t.text, t.at_) ⟨r, n, m, a⟩) else wrongR (t :: r)).er nmE
    split
    · split <;> rfl
    · exact h
theorem vnumR_er (s : Ss) : vnumR s.er = (vnumR s).er id := by
  unfold vnumR
  rw [isAt_erS]
  split
  · rw [drop_er]
    exact er_bind (numR_er _) fun _ _ => rfl
  · exact numR_er s
theorem varS_er (l : List SyVar) (s : Ss) : varS (l.map SyVar.er) s.er = (varS l s).er (pairE (List.map SyVar.er)) := by
  unfold varS
  rw [isAt_erS, List.length_map]
  split
  · rw [drop_er]
    refine er_bind (vnameR_er _ _) fun x _ => er_bind (mustR_er _ _ _) fun _ _ => er_bind (vnumR_er _) fun v _ => er_bind (mustR_er _ _ _) fun _ s4 => ?_
    show _ = Rs.ok ((l ++ [SyVar.mk x.1 v x.2]).map SyVar.er, true) s4.er
    rw [List.map_append]
    rfl
  · rfl
theorem chartR_er (s : Ss) : chartR s.er = (chartR s).er SyChart.er := by
  unfold chartR
  refine er_bind (mustR_er _ _ _) fun _ _ => er_bind (namedR_er _ _) fun x _ => er_bind (mustR_er _ _ _) fun _ s3 => er_bind (It_er varS_er [] s3) fun l _ => er_bind (bodyR_er (nodeR_er 11) _) fun z _ => er_bind (mustR_er _ _ _) fun _ s6 => ?_
  unfold endR
  rw [kindOf_er]
  split
  · rw [nodeOf_er]
    rfl
  · exact wrongR_er _ s6
theorem syR_er (ts : List Tk) : syR (ts.map Tk.er) = (syR ts).er SyChart.er := chartR_er ⟨ts, 0, 0, 0⟩

/-- Tokens without places. -/
def tW (u : List UInt8) : Tk := ⟨2, u, 0, 0⟩
def tN (u : List UInt8) : Tk := ⟨1, u, 0, 0⟩
def tS (u : List UInt8) : Tk := ⟨4, u, 0, 0⟩
def goN : List UInt8 := [103, 111]
def xN : List UInt8 := [120]
def mvT (T : List Tk) : List Tk := tS [45, 62] :: tN xN :: tS [59] :: T
/-- The two ways: an empty block of the node, or of the move. -/
def eA (T : List Tk) : List Tk := tW wEnter :: tS [123] :: tS [125] :: tW wOn :: tN goN :: mvT T
def eB (T : List Tk) : List Tk := tW wOn :: tN goN :: tS [123] :: tS [125] :: mvT T

/-- Two states that stand ahead of the two ways. -/
def Lk (T : List Tk) (s s' : Ss) : Prop := ∃ H, s.ts = H ++ eA T ∧ s'.ts = H ++ eB T ∧ s'.n = s.n ∧ s'.m = s.m ∧ s'.a = s.a
def Sim {α : Type} (T : List Tk) (e e' : Rs α) : Prop := ∀ x s x' s', e = .ok x s → e' = .ok x' s' → x' = x ∧ (s' = s ∨ Lk T s s')

theorem Sim.refl {α : Type} {T : List Tk} (e : Rs α) : Sim T e e := fun x s x' s' h h' => by
  rw [h] at h'
  injection h' with h1 h2
  exact ⟨h1.symm, .inl h2.symm⟩
theorem Sim.bad {α : Type} {T : List Tk} {e e' : Rs α} (h : ∃ c p, e = .bad c p) : Sim T e e' := fun x s x' s' h1 _ => by
  obtain ⟨c, p, h⟩ := h
  rw [h] at h1
  cases h1
theorem Sim.ok {α : Type} {T : List Tk} (x : α) {s s' : Ss} (h : Lk T s s') : Sim T (.ok x s) (.ok x s') := fun y r y' r' h1 h2 => by
  injection h1 with a1 a2
  injection h2 with b1 b2
  subst a1 a2 b2
  exact ⟨b1.symm, .inr h⟩
theorem Sim.bind {α β : Type} {T : List Tk} {e e' : Rs α} {g g' : α → Ss → Rs β} (h : Sim T e e') (hg : ∀ x s s', Lk T s s' → Sim T (g x s) (g' x s')) (he : ∀ x s, Sim T (g x s) (g' x s)) : Sim T (e.bind g) (e'.bind g') := fun y r y' r' h1 h2 => by
  obtain ⟨x, s, a1, a2⟩ := Rs.some h1
  obtain ⟨x', s', b1, b2⟩ := Rs.some h2
  obtain ⟨rfl, hs⟩ := h _ _ _ _ a1 b1
  rcases hs with rfl | hs
  · exact he _ _ _ _ _ _ a2 b2
  · exact hg _ _ _ hs _ _ _ _ a2 b2
theorem Lk.next {T : List Tk} {s s' : Ss} (h : Lk T s s') {t : Tk} {H : List Tk} (h1 : s.ts = t :: (H ++ eA T)) (h2 : s'.ts = t :: (H ++ eB T)) (n m a : Nat → Nat) :
    Lk T ⟨s.ts.tail, n s.n, m s.m, a s.a⟩ ⟨s'.ts.tail, n s'.n, m s'.m, a s'.a⟩ := by
  obtain ⟨_, _, _, hn, hm, ha⟩ := h
  exact ⟨H, by rw [h1]; rfl, by rw [h2]; rfl, by rw [hn], by rw [hm], by rw [ha]⟩
theorem Lk.drop {T : List Tk} {s s' : Ss} (h : Lk T s s') {t : Tk} {H : List Tk} (h1 : s.ts = t :: (H ++ eA T)) (h2 : s'.ts = t :: (H ++ eB T)) : Lk T s.drop s'.drop := h.next h1 h2 id id id

/-- Words and signs that the two ways do not begin with. -/
def Plain (k : Int) (u : List UInt8) : Prop := isTk k u (tW wEnter) = false ∧ isTk k u (tW wOn) = false
instance (k : Int) (u : List UInt8) : Decidable (Plain k u) := inferInstanceAs (Decidable (_ ∧ _))
/-- The same but for what there was. -/
def SyB.eqB (b b' : SyB) : Prop := b'.initial = b.initial ∧ b'.enter = b.enter ∧ b'.leave = b.leave ∧ b'.moves = b.moves
theorem SyB.eqB.rfl (b : SyB) : b.eqB b := ⟨Eq.refl _, Eq.refl _, Eq.refl _, Eq.refl _⟩

def tE : Tk := ⟨5, [], 0, 0⟩
def rep (g : List Tk → List Tk) : Nat → List Tk → List Tk
  | 0, T => T
  | k + 1, T => g (rep g k T)

theorem scT_step {l m : List UInt8} (hm : l.drop (blK false l) = m) (h0 : m ≠ []) (he : tkE m = 0) (p : Nat) (acc : List Tk) :
    scT p acc l = scT (p + blK false l + tkS m) (acc ++ [tkT m ((p + blK false l : Nat) : Int)]) (m.drop (tkS m)) := by
  have hp := tkS_pos2 h0 he
  have hs := tkS_le m
  have hl := congrArg List.length hm
  rw [List.length_drop] at hl
  unfold scT
  rw [scA_step hm h0 he]
  exact scA_same _ _ _ _ _ (by rw [List.length_drop]; omega) (by omega)
theorem scT_end {l : List UInt8} (hm : l.drop (blK false l) = []) (p : Nat) (acc : List Tk) : scT p acc l = (acc ++ [⟨5, [], 0, ((p + blK false l : Nat) : Int)⟩], 0, 0) := scA_end hm
theorem scT_bad {l m : List UInt8} (hm : l.drop (blK false l) = m) (h0 : m ≠ []) (he : tkE m ≠ 0) (p : Nat) (acc : List Tk) : scT p acc l = ([], tkE m, ((p + blK false l : Nat) : Int)) := scA_bad hm h0 he

/-- A text's tokens are those, but for their places, whatever stands in front. -/
def ScIs (l : List UInt8) (u : List Tk) : Prop := ∀ p acc, ∃ (v : List Tk) (q : Int), v.map Tk.er = u ∧ scT p acc l = (acc ++ v ++ [⟨5, [], 0, q⟩], 0, 0)
/-- There is a fault. -/
def ScNo (l : List UInt8) : Prop := ∀ p acc, (scT p acc l).2.1 ≠ 0

/-- A text that stands in front of any other one: its tokens, and no more. -/
def Ahead (d : List UInt8) (u : List Tk) : Prop := ∀ t p acc, ∃ (v : List Tk) (q : Nat), v.map Tk.er = u ∧ scT p acc (d ++ t) = scT q (acc ++ v) t
theorem Ahead.nil : Ahead [] [] := fun t p acc => ⟨[], p, rfl, by rw [List.append_nil]; rfl⟩
theorem Ahead.append {d d' : List UInt8} {u u' : List Tk} (h : Ahead d u) (h' : Ahead d' u') : Ahead (d ++ d') (u ++ u') := fun t p acc => by
  obtain ⟨v, q, h1, h2⟩ := h (d' ++ t) p acc
  obtain ⟨v', q', k1, k2⟩ := h' t q (acc ++ v)
  exact ⟨v ++ v', q', by rw [List.map_append, h1, k1], by rw [List.append_assoc, h2, k2, List.append_assoc]⟩
theorem Ahead.is {d t : List UInt8} {u w : List Tk} (h : Ahead d u) (ht : ScIs t w) : ScIs (d ++ t) (u ++ w) := fun p acc => by
  obtain ⟨v, q, h1, h2⟩ := h t p acc
  obtain ⟨v', q', k1, k2⟩ := ht q (acc ++ v)
  exact ⟨v ++ v', q', by rw [List.map_append, h1, k1], by rw [h2, k2]; simp⟩
theorem Ahead.no {d t : List UInt8} {u : List Tk} (h : Ahead d u) (ht : ScNo t) : ScNo (d ++ t) := fun p acc => by
  obtain ⟨v, q, h1, h2⟩ := h t p acc
  rw [h2]; exact ht _ _
theorem scIs_nil : ScIs [] [] := fun p acc => ⟨[], _, rfl, by rw [scT_nil, List.append_nil]⟩
theorem Ahead.all {d : List UInt8} {u : List Tk} (h : Ahead d u) : ScIs d u := by
  have := h.is scIs_nil
  rwa [List.append_nil, List.append_nil] at this

theorem Ahead.blank {c : UInt8} (hc : isBl c = true) : Ahead [c] [] := fun t p acc => ⟨[], p + 1, rfl, by rw [List.append_nil]; exact scT_blank hc p acc t⟩
/-- A word or a name, and what stands behind it. -/
theorem Ahead.word {c : UInt8} {u d : List UInt8} {w : List Tk} (hc : isLt c = true) (hu : wdK (c :: u) = (c :: u).length) (hl : (c :: u).length ≤ 24) (hd : ∃ z y, d = z :: y ∧ isWd z = false) (h : Ahead d w) :
    Ahead (c :: u ++ d) (⟨if isKw (c :: u) = true then 2 else 1, c :: u, 0, 0⟩ :: w) := fun t p acc => by
  obtain ⟨z, y, rfl, hz⟩ := hd
  have hnw : NW (z :: y ++ t) := fun c r e => by
    rw [List.cons_append] at e
    injection e with e _
    rw [← e]
    exact hz
  obtain ⟨v, q, h1, h2⟩ := h t (p + (c :: u).length) (acc ++ [⟨if isKw (c :: u) = true then 2 else 1, c :: u, 0, (p : Int)⟩])
  refine ⟨⟨if isKw (c :: u) = true then 2 else 1, c :: u, 0, (p : Int)⟩ :: v, q, by rw [List.map_cons, h1]; rfl, ?_⟩
  rw [List.append_assoc, scT_run hc hu hl hnw, h2]
  simp
/-- A number, and what stands behind it. -/
theorem Ahead.int {n : Int} (h0 : 0 ≤ n) (h1 : n ≤ 9223372036854775807) {d : List UInt8} {w : List Tk} (hd : ∃ z y, d = z :: y ∧ isWd z = false) (h : Ahead d w) : Ahead (Lib.itoa n ++ d) (⟨3, [], n, 0⟩ :: w) := fun t p acc => by
  obtain ⟨z, y, rfl, hz⟩ := hd
  have hnw : NW (z :: y ++ t) := fun c r e => by
    rw [List.cons_append] at e
    injection e with e _
    rw [← e]
    exact hz
  obtain ⟨v, q, k1, k2⟩ := h t (p + (Lib.itoa n).length) (acc ++ [⟨3, [], n, (p : Int)⟩])
  refine ⟨⟨3, [], n, (p : Int)⟩ :: v, q, by rw [List.map_cons, k1]; rfl, ?_⟩
  rw [List.append_assoc, scT_int h0 h1 hnw, k2]
  simp
/-- A sign and a blank. -/
theorem Ahead.signB {s : List UInt8} {z : UInt8} {d : List UInt8} {w : List Tk} (hl : ∃ c u, s = c :: u ∧ isLt c = false ∧ isDg c = false ∧ (∀ t, blK false (c :: (u ++ z :: t)) = 0) ∧ ∀ t, sgn (c :: (u ++ z :: t)) = (c :: u).length) (h : Ahead (z :: d) w) : Ahead (s ++ z :: d) (⟨4, s, 0, 0⟩ :: w) := fun t p acc => by
  obtain ⟨c, u, rfl, h1, h2, h3, h4⟩ := hl
  obtain ⟨v, q, k1, k2⟩ := h t (p + (c :: u).length) (acc ++ [⟨4, c :: u, 0, (p : Int)⟩])
  refine ⟨⟨4, c :: u, 0, (p : Int)⟩ :: v, q, by rw [List.map_cons, k1]; rfl, ?_⟩
  have e1 : (c :: (u ++ z :: (d ++ t))).take (c :: u).length = c :: u := by rw [← List.cons_append, List.take_left']; rfl
  have e2 : (c :: (u ++ z :: (d ++ t))).drop (c :: u).length = z :: (d ++ t) := by rw [← List.cons_append, List.drop_left']; rfl
  have e3 : c :: u ++ z :: d ++ t = c :: (u ++ z :: (d ++ t)) := by simp
  rw [e3, scT_sign h1 h2 (h3 _) (h4 _) (by simp), e1, e2]
  rw [List.cons_append] at k2
  rw [k2]
  simp

/-- A text that is no fault: its tokens. -/
theorem sc_of {l : List UInt8} {u : List Tk} (h : ScIs l u) (hl : l.length ≤ 16384) : (scF l).2 = (0, 0) ∧ (scF l).1.map Tk.er = u ++ [tE] := by
  obtain ⟨v, q, h1, h2⟩ := h 0 []
  rw [scF_T hl, h2]
  refine ⟨rfl, ?_⟩
  rw [List.nil_append, List.map_append, h1]
  rfl

/-- What Parse comes to. -/
def syF (l : List UInt8) : Rs SyChart := if (scF l).2.1 = 0 then syR (scF l).1 else .bad (scF l).2.1 (scF l).2.2
theorem syF_er {l : List UInt8} {u : List Tk} (h : ScIs l u) (hl : l.length ≤ 16384) : (syF l).er SyChart.er = syR (u ++ [tE]) := by
  obtain ⟨h1, h2⟩ := sc_of h hl
  unfold syF
  rw [h1, if_pos rfl, ← syR_er, h2]
/-- Its code. -/
def Rs.code {α : Type} : Rs α → Int
  | .out => -1
  | .bad c _ => c
  | .ok _ _ => 0
theorem pV_rng {l : List UInt8} : 0 ≤ pV l ∧ pV l ≤ 9223372036854775807 := by
  by_cases h0 : l = []
  · subst h0
    rw [pE_nil.2.1]
    decide
  · by_cases h : dgK l = 0 ∨ (1 < dgK l ∧ l.head? = some 48)
    · rw [(p_form h0 h).2.1]
      decide
    · by_cases hv : dval (l.take (dgK l)) ≤ 9223372036854775807
      · rw [(p_ok h0 h hv).2.1]
        omega
      · rw [(p_num h0 h (by omega)).2.1]
        decide

/-- Blanks and notes. -/
theorem Ahead.skip {d : List UInt8} (h : ∀ t, blK false (d ++ t) = d.length + blK false t) : Ahead d [] := fun t p acc => by
  refine ⟨[], p + d.length, rfl, ?_⟩
  rw [List.append_nil]
  unfold scT
  rw [scA_skip (d ++ t).length, h, ← List.drop_drop, List.drop_left, scA_skip t.length, ← Nat.add_assoc]
  exact scA_same _ _ _ _ _ (by rw [List.length_drop, List.length_append]; omega) (by rw [List.length_drop]; omega)

/-- What stands between. -/
def sepN : Nat → List UInt8
  | 0 => [10]
  | 1 => [32, 9]
  | 2 => [32, 47, 47, 32, 125, 32, 120, 10]
  | _ => [13, 10, 10]
theorem ah_sep (k : Nat) : Ahead (sepN k) [] := by
  match k with
  | 0 => exact Ahead.blank rfl
  | 1 => exact (Ahead.blank (c := 32) rfl).append (Ahead.blank (c := 9) rfl)
  | 2 =>
    refine Ahead.skip fun t => ?_
    show blK false t + 1 + 1 + 1 + 1 + 1 + 1 + 1 + 1 = 8 + blK false t
    omega
  | _ + 3 => exact (Ahead.blank (c := 13) rfl).append ((Ahead.blank (c := 10) rfl).append (Ahead.blank (c := 10) rfl))
theorem sep_front (k : Nat) : ∃ z y, sepN k = z :: y ∧ (z = 10 ∨ z = 32 ∨ z = 13) := by
  match k with
  | 0 => exact ⟨10, [], rfl, .inl rfl⟩
  | 1 => exact ⟨32, [9], rfl, .inr (.inl rfl)⟩
  | 2 => exact ⟨32, [47, 47, 32, 125, 32, 120, 10], rfl, .inr (.inl rfl)⟩
  | _ + 3 => exact ⟨13, [10, 10], rfl, .inr (.inr rfl)⟩

/-- A token's text. -/
def tokTx (t : Tk) : List UInt8 := if t.kind = 3 then Lib.itoa t.num else t.text
/-- A token that is printed. -/
def GoodTk (t : Tk) : Prop := ∀ k, Ahead (tokTx t ++ sepN k) [t.er]

/-- Signs before a blank. -/
theorem sign_ok {s : List UInt8} (hs : s ∈ twoS ∨ ∃ c ∈ oneS, s = [c]) {z : UInt8} (hz : z = 10 ∨ z = 32 ∨ z = 13) : ∃ c u, s = c :: u ∧ isLt c = false ∧ isDg c = false ∧ (∀ t, blK false (c :: (u ++ z :: t)) = 0) ∧ ∀ t, sgn (c :: (u ++ z :: t)) = (c :: u).length := by
  rcases hs with hs | ⟨c, hc, rfl⟩
  · simp only [twoS, List.mem_cons, List.not_mem_nil, or_false] at hs
    rcases hz with rfl | rfl | rfl <;> rcases hs with rfl | rfl | rfl | rfl | rfl | rfl | rfl <;> exact ⟨_, _, rfl, rfl, rfl, fun _ => rfl, fun _ => rfl⟩
  · simp only [oneS, List.mem_cons, List.not_mem_nil, or_false] at hc
    rcases hz with rfl | rfl | rfl <;> rcases hc with rfl | rfl | rfl | rfl | rfl | rfl | rfl | rfl | rfl | rfl | rfl | rfl | rfl | rfl | rfl | rfl | rfl <;> exact ⟨_, [], rfl, rfl, rfl, fun _ => rfl, fun _ => rfl⟩

theorem sgn_text {c : UInt8} {r : List UInt8} (h : sgn (c :: r) ≠ 0) : (c :: r).take (sgn (c :: r)) ∈ twoS ∨ ∃ d ∈ oneS, (c :: r).take (sgn (c :: r)) = [d] := by
  unfold sgn at h ⊢
  split
  · rename_i h2
    exact .inl (by simpa using h2)
  · rename_i h2
    rw [if_neg h2] at h
    show (c :: r).take (if oneS.contains c = true then 1 else 0) ∈ _ ∨ _
    have h : (if oneS.contains c = true then 1 else 0) ≠ 0 := h
    by_cases h1 : oneS.contains c = true
    · refine .inr ⟨c, by simpa using h1, ?_⟩
      show (c :: r).take (if oneS.contains c = true then 1 else 0) = [c]
      rw [if_pos h1]
      rfl
    · rw [if_neg h1] at h
      exact absurd rfl h

theorem tk_good {m : List UInt8} (h0 : m ≠ []) (he : tkE m = 0) (p : Int) : GoodTk (tkT m p) := fun k => by
  obtain ⟨z, y, hsep, hz⟩ := sep_front k
  have hw : isWd z = false := by rcases hz with rfl | rfl | rfl <;> rfl
  have hah := ah_sep k
  match m, h0 with
  | c :: r, _ =>
    rw [tkE_cons] at he
    rw [tkT_cons]
    by_cases hc : isLt c = true
    · rw [if_pos hc] at he ⊢
      have hl : wdK (c :: r) ≤ 24 := by
        split at he
        · cases he
        · omega
      have hpos := wdK_pos (c := c) (r := r) (by simp [isWd, hc])
      have hle := wdK_le (c :: r)
      obtain ⟨n, hn⟩ : ∃ n, wdK (c :: r) = n + 1 := ⟨wdK (c :: r) - 1, by omega⟩
      have hall : ∀ x ∈ (c :: r).take (wdK (c :: r)), isWd x = true := fun x hx => by
        obtain ⟨i, hi⟩ := List.getElem?_of_mem hx
        rw [List.getElem?_take] at hi
        split at hi
        · rename_i h1
          cases e : isWd x with
          | true => rfl
          | false =>
            obtain ⟨h2, h3⟩ := List.getElem?_eq_some_iff.1 hi
            have := wdK_no (c :: r) i h2 (by omega) (by rw [h3]; exact e)
            omega
        · cases hi
      rw [hn, List.take_succ_cons] at hall ⊢
      have hu : wdK (c :: r.take n) = (c :: r.take n).length := wdK_all hall
      have hll : (c :: r.take n).length ≤ 24 := by
        rw [List.length_cons, List.length_take]
        rw [List.length_cons] at hle
        omega
      have hA := Ahead.word hc hu hll ⟨z, y, hsep, hw⟩ hah
      have ht : tokTx ⟨if isKw (c :: r.take n) = true then 2 else 1, c :: r.take n, 0, p⟩ = c :: r.take n := by
        unfold tokTx
        rw [if_neg]
        show ¬ (if isKw (c :: r.take n) = true then (2 : Int) else 1) = 3
        split <;> decide
      rw [ht]
      exact hA
    · rw [if_neg hc] at he ⊢
      by_cases hd : isDg c = true
      · rw [if_pos hd]
        obtain ⟨h1, h2⟩ := pV_rng (l := c :: r)
        exact Ahead.int h1 h2 ⟨z, y, hsep, hw⟩ hah
      · rw [if_neg hd] at he ⊢
        have hs : sgn (c :: r) ≠ 0 := fun e => by rw [if_pos e] at he; cases he
        have hA := Ahead.signB (sign_ok (sgn_text hs) hz) (d := y) (w := []) (by rw [← hsep]; exact hah)
        rw [← hsep] at hA
        exact hA

/-- All tokens of a text but the last one. -/
theorem sc_good : ∀ (n : Nat) (l : List UInt8) (p : Nat) (acc : List Tk), l.length ≤ n → (scT p acc l).2.1 = 0 → ∃ (v : List Tk) (q : Int), (scT p acc l) = (acc ++ v ++ [⟨5, [], 0, q⟩], 0, 0) ∧ ∀ t ∈ v, GoodTk t
  | n, l, p, acc, hn, h => by
    obtain ⟨m, hmm⟩ : ∃ m, l.drop (blK false l) = m := ⟨_, rfl⟩
    by_cases hm : m = []
    · subst hm
      exact ⟨[], _, by rw [scT_end hmm, List.append_nil], fun t ht => by cases ht⟩
    · by_cases he : tkE m = 0
      · have hs := tkS_le m
        have hp := tkS_pos2 hm he
        have hml : m.length = l.length - blK false l := by rw [← hmm, List.length_drop]
        obtain ⟨n, rfl⟩ : ∃ j, n = j + 1 := ⟨n - 1, by omega⟩
        rw [scT_step hmm hm he] at h ⊢
        obtain ⟨v, q, h1, h2⟩ := sc_good n (m.drop (tkS m)) _ _ (by rw [List.length_drop]; omega) h
        refine ⟨tkT m ((p + blK false l : Nat) : Int) :: v, q, by rw [h1]; simp, fun t ht => ?_⟩
        rcases List.mem_cons.1 ht with rfl | ht
        · exact tk_good hm he _
        · exact h2 t ht
      · rw [scT_bad hmm hm he] at h
        exact absurd h he

/-- The tokens printed, with what stands between. -/
def apT (g : Nat → Nat) : Nat → List Tk → List UInt8
  | _, [] => []
  | i, t :: v => tokTx t ++ sepN (g i) ++ apT g (i + 1) v
theorem apT_snoc (g : Nat → Nat) : ∀ (i : Nat) (v : List Tk) (t : Tk), apT g i (v ++ [t]) = apT g i v ++ (tokTx t ++ sepN (g (i + v.length)))
  | i, [], t => by
    show tokTx t ++ sepN (g i) ++ [] = [] ++ _
    rw [List.append_nil, List.nil_append]
    rfl
  | i, u :: v, t => by
    show tokTx u ++ sepN (g i) ++ apT g (i + 1) (v ++ [t]) = tokTx u ++ sepN (g i) ++ apT g (i + 1) v ++ _
    rw [apT_snoc g (i + 1) v t, List.append_assoc, List.append_assoc, List.append_assoc, List.length_cons, show i + 1 + v.length = i + (v.length + 1) from by omega]
theorem ah_apT (g : Nat → Nat) : ∀ (i : Nat) (v : List Tk), (∀ t ∈ v, GoodTk t) → Ahead (apT g i v) (v.map Tk.er)
  | _, [], _ => Ahead.nil
  | i, t :: v, h => (h t (List.mem_cons_self ..) (g i)).append (ah_apT g (i + 1) v fun x hx => h x (List.mem_cons_of_mem _ hx))

/-- The law on blanks and notes: what the text and the printed tokens are read as. -/
theorem apart_text {l : List UInt8} (hl : l.length ≤ 16384) (h : (scF l).2.1 = 0) : ∃ (v : List Tk) (q : Int), (scF l).1 = v ++ [⟨5, [], 0, q⟩] ∧ ∀ g, (apT g 0 v).length ≤ 16384 → (syF (apT g 0 v)).er SyChart.er = (syF l).er SyChart.er := by
  rw [scF_T hl] at h
  obtain ⟨v, q, h1, h2⟩ := sc_good _ l 0 [] (Nat.le_refl _) h
  refine ⟨v, q, by rw [scF_T hl, h1]; rfl, fun g hg => ?_⟩
  rw [syF_er (ah_apT g 0 v h2).all hg]
  unfold syF
  rw [scF_T hl, h1, if_pos rfl, ← syR_er]
  simp [tE, Tk.er]
theorem sc_short {l : List UInt8} (h : (scF l).2.1 = 0) : l.length ≤ 16384 := by
  unfold scF at h
  split at h
  · cases h
  · omega

end Go.Proofs.YtcddbfdbhjkjgaaGreatDoor
