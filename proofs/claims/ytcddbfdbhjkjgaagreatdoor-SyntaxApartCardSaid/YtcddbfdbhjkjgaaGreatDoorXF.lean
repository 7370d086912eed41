/-
  The document's reader of tokens: its state; whether a sign stands there; what is wrong.
  The document's rows of operators; which one stands there.
  The document's reader: an expression's block; whether a state is active.
  The document's reader: behind the word 'in'.
  The document's reader: what has no operator of two.
  The document's reader: an expression of a row.
  A tree in memory that doesn't lie in a given block.
  The document's reader: a row of operators.
  The document's reader: every part of it.
-/
import Derived.Test.YtcddbfdbhjkjgaaGreatDoorXE
import Derived.Test.YtcddbfdbhjkjgaaGreatDoorXS
import Derived.RegionTactic
namespace Go.Proofs.YtcddbfdbhjkjgaaGreatDoor
open Go.RowKit

/-- A slice that reads as tokens, wherever it begins. -/
def TkAt (w : World) (A : Option Addr) (n : Nat) (xs : List Tk) : Prop := xs.length = n ∧ ∀ (i : Nat) (t : Tk), xs[i]? = some t → ∃ g o, A = some ⟨g, o, none⟩ ∧
  w.cell? ⟨g, o + i * 4, none⟩ = some (.int .i64 t.kind) ∧ w.cell? ⟨g, o + i * 4 + 1, none⟩ = some (txV t.text) ∧ w.cell? ⟨g, o + i * 4 + 2, none⟩ = some (.int .i64 t.num) ∧ w.cell? ⟨g, o + i * 4 + 3, none⟩ = some (.int .i64 t.at_)

theorem TkSrc.at {w : World} {A : Option Addr} {n : Nat} {xs : List Tk} (h : TkSrc w A n xs) : TkAt w A n xs :=
  ⟨h.1, fun i t hi => by
    obtain ⟨g, e, h0, h1, h2, h3⟩ := h.2 i t hi
    exact ⟨g, 0, e, by rw [Nat.zero_add]; exact h0, by rw [Nat.zero_add]; exact h1, by rw [Nat.zero_add]; exact h2, by rw [Nat.zero_add]; exact h3⟩⟩

/-- A document's reader: its tokens, its place, how deep it is, its fault. -/
def RdB (w : World) (b : Nat) (A : Option Addr) (n c : Nat) (q d : Nat) (code pos : Int) : Prop := w.heap[b]? = some (.cells #[.slice A n c, .int .i64 (q : Int), .int .i64 (d : Int), .int .i64 code, .int .i64 pos] 144 (0, 0))

section
variable {w w' : World} {b n c q d : Nat} {A : Option Addr} {code pos : Int}
theorem RdB.lt (h : RdB w b A n c q d code pos) : b < w.heap.size := by
  rcases Nat.lt_or_ge b w.heap.size with hlt | hge
  · exact hlt
  · unfold RdB at h; rw [Array.getElem?_eq_none hge] at h; cases h
theorem RdB.c0 (h : RdB w b A n c q d code pos) : w.cell? ⟨b, 0, none⟩ = some (.slice A n c) := cell_of_row w b 0 _ _ _ h
theorem RdB.c1 (h : RdB w b A n c q d code pos) : w.cell? ⟨b, 1, none⟩ = some (.int .i64 (q : Int)) := cell_of_row w b 1 _ _ _ h
theorem RdB.c2 (h : RdB w b A n c q d code pos) : w.cell? ⟨b, 2, none⟩ = some (.int .i64 (d : Int)) := cell_of_row w b 2 _ _ _ h
theorem RdB.c3 (h : RdB w b A n c q d code pos) : w.cell? ⟨b, 3, none⟩ = some (.int .i64 code) := cell_of_row w b 3 _ _ _ h
theorem RdB.c4 (h : RdB w b A n c q d code pos) : w.cell? ⟨b, 4, none⟩ = some (.int .i64 pos) := cell_of_row w b 4 _ _ _ h
theorem RdB.fr (h : RdB w b A n c q d code pos) (i : Nat) : w.frozen? ⟨b, i, none⟩ = false := by
  unfold RdB at h
  simp [World.frozen?, h]
theorem RdB.below (h : RdB w b A n c q d code pos) (hb : Below w.heap.size w w') : RdB w' b A n c q d code pos := (hb.block b h.lt).trans h
theorem RdB.alloc (h : RdB w b A n c q d code pos) (o : Obj) : RdB (w.alloc o) b A n c q d code pos := (Below.heap_alloc w o b h.lt).trans h
theorem RdB.mv {g : Nat} (h : RdB w b A n c q d code pos) (hb : Mv g w w') (hn : b ≠ g) : RdB w' b A n c q d code pos := (hb.block h.lt hn).trans h
theorem RdB.set1 (h : RdB w b A n c q d code pos) (q' : Nat) : RdB (w.setCell ⟨b, 1, none⟩ (.int .i64 (q' : Int))) b A n c q' d code pos := heap_setCell_same w b 1 _ _ _ h
theorem RdB.set2 (h : RdB w b A n c q d code pos) (d' : Nat) : RdB (w.setCell ⟨b, 2, none⟩ (.int .i64 (d' : Int))) b A n c q d' code pos := heap_setCell_same w b 2 _ _ _ h
end

theorem Mv.drew {b : Nat} {w w' : World} (h : Mv b w w') : Mv b w w'.drew := h.trans ⟨rfl, rfl, rfl, Nat.le_refl _, fun _ _ _ => rfl⟩

theorem TkAt.get {w : World} {A : Option Addr} {n : Nat} {xs : List Tk} (h : TkAt w A n xs) {q : Nat} (hq : q < n) : ∃ t, xs[q]? = some t := ⟨_, List.getElem?_eq_getElem (by rw [h.1]; exact hq)⟩

/-- The fault of a token that cannot stand there. -/
def wrC (t : Tk) : Int := if t.kind = 5 then 3 else 4

theorem TkAt.below {w w' : World} {A : Option Addr} {n : Nat} {xs : List Tk} (h : TkAt w A n xs) (hb : Below w.heap.size w w') : TkAt w' A n xs :=
  ⟨h.1, fun i t hi => by
    obtain ⟨g, o, e, h0, h1, h2, h3⟩ := h.2 i t hi
    exact ⟨g, o, e, by rw [hb.cell (World.block_lt_of_cell? w _ h0)]; exact h0, by rw [hb.cell (World.block_lt_of_cell? w _ h1)]; exact h1, by rw [hb.cell (World.block_lt_of_cell? w _ h2)]; exact h2, by rw [hb.cell (World.block_lt_of_cell? w _ h3)]; exact h3⟩⟩

/-- A row's values at a block. -/
def RowsAt (w : World) (g : Nat) (f : List UInt8 × Int → Value) : Prop := ∀ k, k < 6 → ∃ gk, w.cell? ⟨g, k, none⟩ = some (.slice (some ⟨gk, 0, none⟩) (rowOps k).length (rowOps k).length) ∧ ∀ (i : Nat) (o : List UInt8 × Int), (rowOps k)[i]? = some o → w.cell? ⟨gk, i, none⟩ = some (f o)

theorem RowsAt.below {w w' : World} {g : Nat} {f : List UInt8 × Int → Value} (h : RowsAt w g f) (hb : Below w.heap.size w w') : RowsAt w' g f := fun k hk => by
  obtain ⟨gk, h1, h2⟩ := h k hk
  exact ⟨gk, by rw [hb.cell (World.block_lt_of_cell? w _ h1)]; exact h1, fun i o ho => by rw [hb.cell (World.block_lt_of_cell? w _ (h2 i o ho))]; exact h2 i o ho⟩

theorem find_yes {α : Type} {p : α → Bool} : ∀ {l : List α} {i : Nat} {o : α}, l[i]? = some o → p o = true → (∀ j x, j < i → l[j]? = some x → p x = false) → l.find? p = some o
  | [], i, o, h, _, _ => by simp at h
  | x :: l, 0, o, h, hp, _ => by
    have : x = o := by simpa using h
    subst this
    rw [List.find?_cons, hp]
  | x :: l, i + 1, o, h, hp, hn => by
    rw [List.find?_cons, hn 0 x (by omega) rfl]
    exact find_yes (by simpa using h) hp (fun j y hj hy => hn (j + 1) y (by omega) (by simpa using hy))

theorem find_no {α : Type} {p : α → Bool} {l : List α} (h : ∀ j x, j < l.length → l[j]? = some x → p x = false) : l.find? p = none := by
  rw [List.find?_eq_none]
  intro x hx
  obtain ⟨j, hj⟩ := List.getElem?_of_mem hx
  rw [h j x ((List.getElem?_eq_some_iff.1 hj).1) hj]
  decide

theorem rowOps_len (k : Nat) : (rowOps k).length ≤ 4 := by
  match k with
  | 0 => decide
  | 1 => decide
  | 2 => decide
  | 3 => decide
  | 4 => decide
  | 5 => decide
  | k + 6 => simp [rowOps]

/-- An expression's block. -/
def XpB (w : World) (g : Nat) (v : EV) : Prop := w.heap[g]? = some (.cells #[.int .i64 v.kind, .int .i64 v.num, .string v.name, .int .i64 v.op, .slice v.A v.len v.cap, .int .i64 v.p] 54 (0, 0))

def ev0 : EV := ⟨0, 0, ⟨#[]⟩, 0, none, 0, 0, 0⟩

section
variable {w w' : World} {g : Nat} {v : EV}
theorem XpB.lt (h : XpB w g v) : g < w.heap.size := by
  rcases Nat.lt_or_ge g w.heap.size with hlt | hge
  · exact hlt
  · unfold XpB at h; rw [Array.getElem?_eq_none hge] at h; cases h
theorem XpB.c0 (h : XpB w g v) : w.cell? ⟨g, 0, none⟩ = some (.int .i64 v.kind) := cell_of_row w g 0 _ _ _ h
theorem XpB.c1 (h : XpB w g v) : w.cell? ⟨g, 1, none⟩ = some (.int .i64 v.num) := cell_of_row w g 1 _ _ _ h
theorem XpB.c2 (h : XpB w g v) : w.cell? ⟨g, 2, none⟩ = some (.string v.name) := cell_of_row w g 2 _ _ _ h
theorem XpB.c3 (h : XpB w g v) : w.cell? ⟨g, 3, none⟩ = some (.int .i64 v.op) := cell_of_row w g 3 _ _ _ h
theorem XpB.c4 (h : XpB w g v) : w.cell? ⟨g, 4, none⟩ = some (.slice v.A v.len v.cap) := cell_of_row w g 4 _ _ _ h
theorem XpB.c5 (h : XpB w g v) : w.cell? ⟨g, 5, none⟩ = some (.int .i64 v.p) := cell_of_row w g 5 _ _ _ h
theorem XpB.fr (h : XpB w g v) (i : Nat) : w.frozen? ⟨g, i, none⟩ = false := by
  unfold XpB at h
  simp [World.frozen?, h]
theorem XpB.below (h : XpB w g v) (hb : Below w.heap.size w w') : XpB w' g v := (hb.block g h.lt).trans h
theorem XpB.alloc (h : XpB w g v) (o : Obj) : XpB (w.alloc o) g v := (Below.heap_alloc w o g h.lt).trans h
theorem XpB.mv {b : Nat} (h : XpB w g v) (hb : Mv b w w') (hn : g ≠ b) : XpB w' g v := (hb.block h.lt hn).trans h
theorem XpB.new (w : World) (v : EV) : XpB (w.alloc (.cells #[.int .i64 v.kind, .int .i64 v.num, .string v.name, .int .i64 v.op, .slice v.A v.len v.cap, .int .i64 v.p] 54)) w.heap.size v := heap_alloc_new w _

/-- Six cells are written. -/
def six (w : World) (g : Nat) (u : EV) : World := (((((w.setCell ⟨g, 0, none⟩ (.int .i64 u.kind)).setCell ⟨g, 1, none⟩ (.int .i64 u.num)).setCell ⟨g, 2, none⟩ (.string u.name)).setCell ⟨g, 3, none⟩ (.int .i64 u.op)).setCell ⟨g, 4, none⟩ (.slice u.A u.len u.cap)).setCell ⟨g, 5, none⟩ (.int .i64 u.p)

theorem XpB.all (h : XpB w g v) (u : EV) : XpB (six w g u) g u := by
  have h0 := heap_setCell_same w g 0 _ _ (.int .i64 u.kind) h
  have h1 := heap_setCell_same _ g 1 _ _ (.int .i64 u.num) h0
  have h2 := heap_setCell_same _ g 2 _ _ (.string u.name) h1
  have h3 := heap_setCell_same _ g 3 _ _ (.int .i64 u.op) h2
  have h4 := heap_setCell_same _ g 4 _ _ (.slice u.A u.len u.cap) h3
  exact heap_setCell_same _ g 5 _ _ (.int .i64 u.p) h4

theorem six_mv (w : World) (g : Nat) (u : EV) : Mv g w (six w g u) := ((((((Mv.refl g w).set 0 _).set 1 _).set 2 _).set 3 _).set 4 _).set 5 _
theorem six_put {b : Nat} {u0 : World} (h : Mv b u0 w) (hg : u0.heap.size ≤ g) (u : EV) : Mv b u0 (six w g u) := (((((h.put 0 g hg _).put 1 g hg _).put 2 g hg _).put 3 g hg _).put 4 g hg _).put 5 g hg _

theorem XpB.load (h : XpB w g v) : (loadVar 54 ⟨g, 0, none⟩).run Tryz.prog w = .ok v.val w :=
  run_loadVar_row w g _ _ _ _ _ h Tryz.underlying54 rfl (by kernel_rfl)
theorem XpB.res {fn : Func} {p : Tmp} (hr : fn.results = #[.cell p 54]) (tmps : Array Value) (hp : tmps.getD p undef = .pointer (some ⟨g, 0, none⟩)) (h : XpB w g v) :
    (results fn tmps).run Tryz.prog w = .ok v.val w := by
  have hp' : tmps[p]?.getD undef = .pointer (some ⟨g, 0, none⟩) := by simpa using hp
  simp [results, hr, hp', asAddr, h.load]
end

theorem GV.mv {w w' : World} {lo b : Nat} {x : GX} {v : EV} (h : GV w lo w.heap.size x v) (hm : Mv b w w') (hb : b < lo) : GV w' lo w'.heap.size x v :=
  (h.same (fun g h1 h2 => hm.block h2 (by omega))).mono (Nat.le_refl _) (World.grownBy.size hm)

theorem TkAt.mv {w w' : World} {A : Option Addr} {n b : Nat} {xs : List Tk} (h : TkAt w A n xs) (hm : Mv b w w') (hn : ∀ g o, A = some ⟨g, o, none⟩ → g ≠ b) : TkAt w' A n xs :=
  ⟨h.1, fun i t hi => by
    obtain ⟨g, o, e, h0, h1, h2, h3⟩ := h.2 i t hi
    have hb : w'.heap[g]? = w.heap[g]? := hm.block (World.block_lt_of_cell? w _ h0) (hn g o e)
    have e' : ∀ j, w'.cell? ⟨g, j, none⟩ = w.cell? ⟨g, j, none⟩ := fun j => World.cell?_of_block (w := w) hb
    exact ⟨g, o, e, by rw [e']; exact h0, by rw [e']; exact h1, by rw [e']; exact h2, by rw [e']; exact h3⟩⟩

/-- What a part of the document's reader leaves. -/
def RP (w' : World) (lo b n c d : Nat) (A : Option Addr) (xs : List Tk) (v : EV) : PR → Prop
  | .out => False
  | .ok x r => GV w' lo w'.heap.size x.gx v ∧ TkEnds r ∧ ∃ q, q < n ∧ xs.drop q = r ∧ RdB w' b A n c q d 0 0
  | .bad code p => code ≠ 0 ∧ ∃ q, q < n ∧ RdB w' b A n c q d code p

theorem wrC_ne (t : Tk) : wrC t ≠ 0 := by unfold wrC; split <;> decide
theorem wrongAt_eq (t : Tk) : wrongAt t = .bad (wrC t) t.at_ := by unfold wrongAt wrC; split <;> rfl

theorem drop_get {xs r : List Tk} {q : Nat} {t : Tk} (h : xs.drop q = t :: r) : xs[q]? = some t ∧ q < xs.length ∧ xs.drop (q + 1) = r := by
  have hq : q < xs.length := by
    rcases Nat.lt_or_ge q xs.length with h1 | h1
    · exact h1
    · rw [List.drop_of_length_le h1] at h; cases h
  rw [List.drop_eq_getElem_cons hq] at h
  injection h with h1 h2
  exact ⟨by rw [List.getElem?_eq_getElem hq, h1], hq, h2⟩

theorem ends_cons {l : List Tk} (h : TkEnds l) : ∃ t r, l = t :: r := by
  cases l with
  | nil => exact absurd rfl h.ne
  | cons t r => exact ⟨t, r, rfl⟩

theorem RP.rd {w' : World} {lo b n c d : Nat} {A : Option Addr} {xs : List Tk} {v : EV} {e : PR} (h : RP w' lo b n c d A xs v e) : ∃ q code pos, q < n ∧ RdB w' b A n c q d code pos := by
  cases e with
  | out => exact absurd h (by intro h; exact h)
  | ok x r => obtain ⟨_, _, q, hq, _, hr⟩ := h; exact ⟨q, 0, 0, hq, hr⟩
  | bad code p => obtain ⟨_, q, hq, hr⟩ := h; exact ⟨q, code, p, hq, hr⟩

/-- A part's value, as an object. -/
def xob (v : EV) : Obj := .cells #[.int .i64 v.kind, .int .i64 v.num, .string v.name, .int .i64 v.op, .slice v.A v.len v.cap, .int .i64 v.p] 54

theorem RP.one {W : World} {lo lo' b n c d g : Nat} {A : Option Addr} {xs : List Tk} {v : EV} {e : PR} (h : RP W lo' b n c (d + 1) A xs v e) (hb : b < lo') (hg : g < lo') (hlo : lo ≤ lo') (h5 : lo' ≤ W.heap.size) (hne : b ≠ g) (op p : Int) :
    RP (six (((W.setCell ⟨b, 2, none⟩ (.int .i64 (d : Int))).alloc (xob v)).alloc (xob v)) g ⟨4, 0, ⟨#[]⟩, op, some ⟨W.heap.size + 1, 0, none⟩, 1, 1, p⟩) lo b n c d A xs ⟨4, 0, ⟨#[]⟩, op, some ⟨W.heap.size + 1, 0, none⟩, 1, 1, p⟩
      (e.andThen fun x r' => .ok (.one op x p) r') := by
  cases e with
  | out => exact absurd h (by intro h; exact h)
  | bad code q =>
    obtain ⟨hc, q', hq, hr⟩ := h
    exact ⟨hc, q', hq, (((hr.set2 d).alloc _).alloc _).mv (six_mv _ g _) hne⟩
  | ok x r =>
    obtain ⟨hv, he, q', hq, hx, hr⟩ := h
    refine ⟨?_, he, q', hq, hx, (((hr.set2 d).alloc _).alloc _).mv (six_mv _ g _) hne⟩
    have hm : Mv b W (W.setCell ⟨b, 2, none⟩ (.int .i64 (d : Int))) := (Mv.refl b W).set 2 _
    have h1 := hv.mv hm hb
    have hs1 := World.grownBy.size hm
    obtain ⟨W1, hW1⟩ : ∃ W1, W1 = W.setCell ⟨b, 2, none⟩ (.int .i64 (d : Int)) := ⟨_, rfl⟩
    have hsz : W1.heap.size = W.heap.size := by rw [hW1]; simp [World.setCell]
    rw [← hW1] at h1 hs1 ⊢
    have h2 : GV (W1.alloc (xob v)) lo' (W1.alloc (xob v)).heap.size x.gx v := (h1.below ((Below.refl _ W1).alloc (Nat.le_refl _) _) (Nat.le_refl _)).mono (Nat.le_refl _) (by simp)
    have hsz2 : (W1.alloc (xob v)).heap.size = W.heap.size + 1 := by simp [hsz]
    have h3 := h2.one_new (by omega) 54 op p
    rw [hsz2] at h3
    have h4 : GV ((W1.alloc (xob v)).alloc (xob v)) lo' ((W1.alloc (xob v)).alloc (xob v)).heap.size (.mk 4 0 [] op [x.gx] p) ⟨4, 0, ⟨#[]⟩, op, some ⟨W.heap.size + 1, 0, none⟩, 1, 1, p⟩ := by
      have e : ((W1.alloc (xob v)).alloc (xob v)).heap.size = W.heap.size + 1 + 1 := by simp [hsz]
      rw [e]
      exact h3
    exact (h4.mv (six_mv _ g _) hg).mono hlo (Nat.le_refl _)

theorem RP.put {W : World} {lo lo' b n c d g : Nat} {A : Option Addr} {xs : List Tk} {v : EV} {e : PR} (h : RP W lo' b n c d A xs v e) (hg : g < lo') (hlo : lo ≤ lo') (hne : b ≠ g) : RP (six W g v) lo b n c d A xs v e := by
  cases e with
  | out => exact absurd h (by intro h; exact h)
  | bad code q =>
    obtain ⟨hc, q', hq, hr⟩ := h
    exact ⟨hc, q', hq, hr.mv (six_mv _ g _) hne⟩
  | ok x r =>
    obtain ⟨hv, he, q', hq, hx, hr⟩ := h
    exact ⟨(hv.mv (six_mv _ g _) hg).mono hlo (Nat.le_refl _), he, q', hq, hx, hr.mv (six_mv _ g _) hne⟩

theorem RP.alloc {W : World} {lo b n c d : Nat} {A : Option Addr} {xs : List Tk} {v : EV} {e : PR} (h : RP W lo b n c d A xs v e) (ob : Obj) : RP (W.alloc ob) lo b n c d A xs v e := by
  cases e with
  | out => exact absurd h (by intro h; exact h)
  | bad code q =>
    obtain ⟨hc, q', hq, hr⟩ := h
    exact ⟨hc, q', hq, hr.alloc _⟩
  | ok x r =>
    obtain ⟨hv, he, q', hq, hx, hr⟩ := h
    exact ⟨(hv.below ((Below.refl _ W).alloc (Nat.le_refl _) _) (Nat.le_refl _)).mono (Nat.le_refl _) (by simp), he, q', hq, hx, hr.alloc _⟩

theorem RP.up {W : World} {lo b n c d : Nat} {A : Option Addr} {xs : List Tk} {v : EV} {e : PR} (h : RP W lo b n c (d + 1) A xs v e) (hb : b < lo) : RP (W.setCell ⟨b, 2, none⟩ (.int .i64 (d : Int))) lo b n c d A xs v e := by
  cases e with
  | out => exact absurd h (by intro h; exact h)
  | bad code q =>
    obtain ⟨hc, q', hq, hr⟩ := h
    exact ⟨hc, q', hq, hr.set2 d⟩
  | ok x r =>
    obtain ⟨hv, he, q', hq, hx, hr⟩ := h
    exact ⟨hv.mv ((Mv.refl b W).set 2 _) hb, he, q', hq, hx, hr.set2 d⟩

theorem RP.below {W W' : World} {lo b n c d : Nat} {A : Option Addr} {xs : List Tk} {v : EV} {e : PR} (h : RP W lo b n c d A xs v e) (hb : Below W.heap.size W W') : RP W' lo b n c d A xs v e := by
  cases e with
  | out => exact absurd h (by intro h; exact h)
  | bad code q =>
    obtain ⟨hc, q', hq, hr⟩ := h
    exact ⟨hc, q', hq, hr.below hb⟩
  | ok x r =>
    obtain ⟨hv, he, q', hq, hx, hr⟩ := h
    exact ⟨(hv.below hb (Nat.le_refl _)).mono (Nat.le_refl _) hb.size, he, q', hq, hx, hr.below hb⟩

/-- The operator behind what was read. -/
def opN (k : Nat) : PR → Int
  | .ok _ r => opAt k r
  | _ => 0

theorem GV.pos {w : World} {lo hi : Nat} : ∀ {x : GX} {v : EV}, GV w lo hi x v → v.p = x.p
  | .mk _ _ _ _ _ _, _, h => by
    unfold GV at h
    exact h.2.2.2.2.1

/-- Two parts' values, as an object. -/
def xob2 (v u : EV) : Obj := .cells #[.int .i64 v.kind, .int .i64 v.num, .string v.name, .int .i64 v.op, .slice v.A v.len v.cap, .int .i64 v.p, .int .i64 u.kind, .int .i64 u.num, .string u.name, .int .i64 u.op, .slice u.A u.len u.cap, .int .i64 u.p] 54

theorem RP.both {W : World} {lo lo' b n c d : Nat} {A : Option Addr} {xs : List Tk} {x : Ex} {v u : EV} {e : PR} (hx : GV W lo W.heap.size x.gx v) (h : RP W lo' b n c d A xs u e) (hlo : lo ≤ lo') (h5 : lo' ≤ W.heap.size) (op : Int) :
    RP (W.alloc (xob2 v u)) lo b n c d A xs ⟨5, 0, ⟨#[]⟩, op, some ⟨W.heap.size, 0, none⟩, 2, 2, v.p⟩ (e.andThen fun y r => .ok (.both op x y) r) := by
  cases e with
  | out => exact absurd h (by intro h; exact h)
  | bad code q =>
    obtain ⟨hc, q', hq, hr⟩ := h
    exact ⟨hc, q', hq, hr.alloc _⟩
  | ok y r =>
    obtain ⟨hv, he, q', hq, hd, hr⟩ := h
    refine ⟨?_, he, q', hq, hd, hr.alloc _⟩
    have h1 := hx.both_new (hv.mono hlo (Nat.le_refl _)) (Nat.le_trans hlo h5) 54 op v.p
    have e : (W.alloc (xob2 v u)).heap.size = W.heap.size + 1 := by simp
    rw [e]
    have hp := hx.pos
    rw [gx_p] at hp
    show GV _ lo _ (.mk 5 0 [] op [x.gx, y.gx] x.pos) _
    rw [← hp]
    exact h1

/-- What stands behind the parts of a row that were read. -/
theorem opN_more {k d : Nat} (hk : k < 6) {x : Ex} {r : List Tk} (h : opN k (.ok x r) ≠ 0) : Pm k d x r = ((Pf (k + 1) d r.tail).andThen fun y r' => .ok (.both (opN k (.ok x r)) x y) r').andThen fun z r' => Pm k d z r' := by
  have h' : ¬ opAt k r = 0 := h
  rw [Pm_eq hk, if_neg h']
  show _ = ((Pf (k + 1) d r.tail).andThen fun y r' => .ok (.both (opAt k r) x y) r').andThen _
  cases Pf (k + 1) d r.tail <;> rfl

theorem opN_none {k d : Nat} (hk : k < 6) {e : PR} (h : opN k e = 0) : (e.andThen fun z r => Pm k d z r) = e := by
  cases e with
  | out => rfl
  | bad _ _ => rfl
  | ok x r =>
    show Pm k d x r = _
    rw [Pm_eq hk, if_pos (show opAt k r = 0 from h)]

/-- A tree whose parts are elsewhere than in block g. -/
def NX (w : World) (lo g : Nat) (x : GX) (v : EV) : Prop := ∀ W' : World, (∀ i, lo ≤ i → i < w.heap.size → i ≠ g → W'.heap[i]? = w.heap[i]?) → GV W' lo w.heap.size x v

theorem NX.gv {w : World} {lo g : Nat} {x : GX} {v : EV} (h : NX w lo g x v) : GV w lo w.heap.size x v := h w (fun _ _ _ _ => rfl)

theorem NX.new {W : World} {lo : Nat} {x : GX} {v : EV} (h : GV W lo W.heap.size x v) (ob : Obj) : NX (W.alloc ob) lo W.heap.size x v := fun W' hs =>
  (h.same (fun i h1 h2 => (hs i h1 (by simp; omega) (by omega)).trans (Below.heap_alloc W ob i h2))).mono (Nat.le_refl _) (by simp)

theorem NX.mv {w w' : World} {lo g b : Nat} {x : GX} {v : EV} (h : NX w lo g x v) (hm : Mv b w w') (hb : b < lo ∨ b = g) : NX w' lo g x v := fun W' hs => by
  have hsz := World.grownBy.size hm
  exact (h W' (fun i h1 h2 h3 => (hs i h1 (by omega) h3).trans (hm.block h2 (by omega)))).mono (Nat.le_refl _) hsz

theorem NX.both {W : World} {lo lo' g : Nat} {x y : GX} {v u : EV} (hx : NX W lo g x v) (hy : GV W lo' W.heap.size y u) (hg : g < lo') (hlo : lo ≤ lo') (h5 : lo' ≤ W.heap.size) (op p : Int) :
    NX (W.alloc (xob2 v u)) lo g (.mk 5 0 [] op [x, y] p) ⟨5, 0, ⟨#[]⟩, op, some ⟨W.heap.size, 0, none⟩, 2, 2, p⟩ := fun W' hs => by
  have e : (W.alloc (xob2 v u)).heap.size = W.heap.size + 1 := by simp
  rw [e] at hs ⊢
  have ha : W'.heap[W.heap.size]? = some (xob2 v u) := (hs _ (by omega) (by omega) (by omega)).trans (heap_alloc_new W _)
  have hs' : ∀ i, lo ≤ i → i < W.heap.size → i ≠ g → W'.heap[i]? = W.heap[i]? := fun i h1 h2 h3 => (hs i h1 (by omega) h3).trans (Below.heap_alloc W _ i h2)
  have h1 := (hx W' hs').mono (Nat.le_refl lo) (Nat.le_succ _)
  have h2 := ((hy.same (fun i h1 h2 => hs' i (by omega) h2 (by omega)))).mono hlo (Nat.le_succ _)
  unfold xob2 at ha
  unfold GV
  refine ⟨rfl, rfl, rfl, rfl, rfl, rfl, Nat.le_refl _, (by decide : 2 ≤ maxLen), ?_⟩
  unfold GRow GRow GRow
  refine ⟨⟨W.heap.size, 0, v, rfl, by omega, by omega, ?_, h1⟩, ⟨W.heap.size, 0, u, rfl, by omega, by omega, ?_, h2⟩, trivial⟩
  · exact ⟨cell_of_row W' _ 0 _ _ _ ha, cell_of_row W' _ 1 _ _ _ ha, cell_of_row W' _ 2 _ _ _ ha, cell_of_row W' _ 3 _ _ _ ha, cell_of_row W' _ 4 _ _ _ ha, cell_of_row W' _ 5 _ _ _ ha⟩
  · exact ⟨cell_of_row W' _ 6 _ _ _ ha, cell_of_row W' _ 7 _ _ _ ha, cell_of_row W' _ 8 _ _ _ ha, cell_of_row W' _ 9 _ _ _ ha, cell_of_row W' _ 10 _ _ _ ha, cell_of_row W' _ 11 _ _ _ ha⟩

/-- As RP, and the tree's parts are not in block g. -/
def RX (w' : World) (lo b n c d g : Nat) (A : Option Addr) (xs : List Tk) (v : EV) : PR → Prop
  | .out => False
  | .ok x r => NX w' lo g x.gx v ∧ TkEnds r ∧ ∃ q, q < n ∧ xs.drop q = r ∧ RdB w' b A n c q d 0 0
  | .bad code p => code ≠ 0 ∧ ∃ q, q < n ∧ RdB w' b A n c q d code p

section
variable {W W' : World} {lo lo' b n c d g : Nat} {A : Option Addr} {xs : List Tk} {v u : EV} {e : PR}
theorem RX.new (h : RP W lo b n c d A xs v e) (ob : Obj) : RX (W.alloc ob) lo b n c d W.heap.size A xs v e := by
  cases e with
  | out => exact absurd h (by intro h; exact h)
  | bad code q => obtain ⟨hc, q', hq, hr⟩ := h; exact ⟨hc, q', hq, hr.alloc _⟩
  | ok x r => obtain ⟨hv, he, q', hq, hx, hr⟩ := h; exact ⟨NX.new hv ob, he, q', hq, hx, hr.alloc _⟩
theorem RX.mv {b' : Nat} (h : RX W lo b n c d g A xs v e) (hm : Mv b' W W') (hb : b' = g) (hne : b ≠ b') : RX W' lo b n c d g A xs v e := by
  cases e with
  | out => exact absurd h (by intro h; exact h)
  | bad code q => obtain ⟨hc, q', hq, hr⟩ := h; exact ⟨hc, q', hq, hr.mv hm hne⟩
  | ok x r => obtain ⟨hv, he, q', hq, hx, hr⟩ := h; exact ⟨hv.mv hm (.inr hb), he, q', hq, hx, hr.mv hm hne⟩
theorem RX.below (h : RX W lo b n c d g A xs v e) (hb : Below W.heap.size W W') (hbl : b < lo) : RX W' lo b n c d g A xs v e := by
  cases e with
  | out => exact absurd h (by intro h; exact h)
  | bad code q => obtain ⟨hc, q', hq, hr⟩ := h; exact ⟨hc, q', hq, hr.below hb⟩
  | ok x r => obtain ⟨hv, he, q', hq, hx, hr⟩ := h; exact ⟨hv.mv (Mv.of b hb) (.inl hbl), he, q', hq, hx, hr.below hb⟩
theorem RX.both {x : Ex} (hx : NX W lo g x.gx v) (h : RP W lo' b n c d A xs u e) (hg : g < lo') (hlo : lo ≤ lo') (h5 : lo' ≤ W.heap.size) (op : Int) :
    RX (W.alloc (xob2 v u)) lo b n c d g A xs ⟨5, 0, ⟨#[]⟩, op, some ⟨W.heap.size, 0, none⟩, 2, 2, v.p⟩ (e.andThen fun y r => .ok (.both op x y) r) := by
  cases e with
  | out => exact absurd h (by intro h; exact h)
  | bad code q => obtain ⟨hc, q', hq, hr⟩ := h; exact ⟨hc, q', hq, hr.alloc _⟩
  | ok y r =>
    obtain ⟨hv, he, q', hq, hd, hr⟩ := h
    refine ⟨?_, he, q', hq, hd, hr.alloc _⟩
    have hp := hx.gv.pos
    rw [gx_p] at hp
    show NX _ lo g (.mk 5 0 [] op [x.gx, y.gx] x.pos) _
    rw [← hp]
    exact hx.both hv hg hlo h5 op v.p
end

theorem opAt_sign {k : Nat} {t : Tk} {r : List Tk} (h : opAt k (t :: r) ≠ 0) : t.kind = 4 := by
  by_cases hk : t.kind = 4
  · exact hk
  · exfalso
    apply h
    rw [opAt_cons, find_no (fun j x _ _ => by simp [isSg, hk])]

end Go.Proofs.YtcddbfdbhjkjgaaGreatDoor
