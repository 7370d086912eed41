/-
  Trees in memory, in order: what hangs from a row lies ahead of it, each part in a stretch of its own.
-/
import Derived.Test.YtcddbfdbhjkjgaaGreatDoorXE
import Derived.Test.YtcddbfdbhjkjgaaGreatDoorXA
namespace Go.Proofs.YtcddbfdbhjkjgaaGreatDoor
open Go.RowKit

mutual
/-- A value is that tree, whose parts lie in blocks from lo on and below hi, those of a row ahead of it and apart. -/
def GW (w : World) (lo hi : Nat) : GX → EV → Prop
  | .mk k n s o l p, v => (v.kind = k ∧ v.num = n ∧ v.name.data.toList = s ∧ v.op = o ∧ v.p = p ∧ v.len = l.length ∧ v.len ≤ v.cap ∧ v.cap ≤ maxLen) ∧
    (l = [] ∨ ∃ g cs, v.A = some ⟨g, 0, none⟩ ∧ lo ≤ g ∧ g < hi ∧ w.heap[g]? = some (.cells cs 54 (0, 0)) ∧ GWs w g lo g l 0)
/-- The parts from one on. -/
def GWs (w : World) (g a b : Nat) : List GX → Nat → Prop
  | [], _ => a ≤ b
  | x :: l, i => ∃ m v, a ≤ m ∧ m ≤ b ∧ EvAt w g (0 + i * 6) v ∧ GW w a m x v ∧ GWs w g m b l (i + 1)
end

mutual
theorem GW.same {w w' : World} : ∀ {x : GX} {v : EV} {lo hi : Nat}, (∀ g, lo ≤ g → g < hi → w'.heap[g]? = w.heap[g]?) → GW w lo hi x v → GW w' lo hi x v
  | .mk _ _ _ _ l _, _, lo, hi, hs, h => by
    unfold GW at h ⊢
    refine ⟨h.1, ?_⟩
    rcases h.2 with h2 | ⟨g, cs, h2, h3, h4, h5, h6⟩
    · exact .inl h2
    · exact .inr ⟨g, cs, h2, h3, h4, (hs g h3 h4).trans h5, GWs.same (hs g h3 h4) (fun i h7 h8 => hs i h7 (by omega)) h6⟩
theorem GWs.same {w w' : World} {g : Nat} (hg : w'.heap[g]? = w.heap[g]?) : ∀ {l : List GX} {a b i : Nat}, (∀ j, a ≤ j → j < b → w'.heap[j]? = w.heap[j]?) → GWs w g a b l i → GWs w' g a b l i
  | [], _, _, _, _, h => by unfold GWs at h ⊢; exact h
  | x :: l, a, b, i, hs, h => by
    unfold GWs at h ⊢
    obtain ⟨m, v, h1, h2, h3, h4, h5⟩ := h
    exact ⟨m, v, h1, h2, h3.same hg, GW.same (fun j h6 h7 => hs j h6 (by omega)) h4, GWs.same hg (fun j h6 h7 => hs j (by omega) h7) h5⟩
end

mutual
theorem GW.gv {w : World} : ∀ {x : GX} {v : EV} {lo hi : Nat}, GW w lo hi x v → GV w lo hi x v
  | .mk _ _ _ _ l _, v, lo, hi, h => by
    unfold GW at h
    unfold GV
    obtain ⟨⟨a1, a2, a3, a4, a5, a6, a7, a8⟩, h2⟩ := h
    refine ⟨a1, a2, a3, a4, a5, a6, a7, a8, ?_⟩
    rcases h2 with rfl | ⟨g, cs, h2, h3, h4, _, h6⟩
    · unfold GRow; trivial
    · rw [h2]
      exact GWs.grow h3 h4 (Nat.le_refl _) (Nat.le_of_lt h4) h6
theorem GWs.grow {w : World} {g lo hi : Nat} (h1 : lo ≤ g) (h2 : g < hi) : ∀ {l : List GX} {a b i : Nat}, lo ≤ a → b ≤ hi → GWs w g a b l i → GRow w lo hi l (some ⟨g, 0, none⟩) i
  | [], _, _, _, _, _, _ => by unfold GRow; trivial
  | x :: l, a, b, i, ha, hb, h => by
    unfold GWs at h
    unfold GRow
    obtain ⟨m, v, h3, h4, h5, h6, h7⟩ := h
    exact ⟨⟨g, 0, v, rfl, h1, h2, h5, GV.mono ha (by omega) (GW.gv h6)⟩, GWs.grow h1 h2 (by omega) hb h7⟩
end

theorem GWs.front {w : World} {g : Nat} : ∀ {l : List GX} {a a' b i : Nat}, a' ≤ a → (∀ {x : GX} {v : EV} {lo lo' hi : Nat}, x ∈ l → lo' ≤ lo → GW w lo hi x v → GW w lo' hi x v) → GWs w g a b l i → GWs w g a' b l i
  | [], _, _, _, _, h1, _, h => by unfold GWs at h ⊢; omega
  | x :: l, a, a', b, i, h1, hx, h => by
    unfold GWs at h ⊢
    obtain ⟨m, v, h3, h4, h5, h6, h7⟩ := h
    exact ⟨m, v, by omega, h4, h5, hx (by simp) h1 h6, h7⟩

theorem GW.monoN {w : World} : ∀ (n : Nat) {x : GX} {v : EV} {lo hi lo' hi' : Nat}, SizeOf.sizeOf x ≤ n → lo' ≤ lo → hi ≤ hi' → GW w lo hi x v → GW w lo' hi' x v
  | 0, .mk _ _ _ _ _ _, _, _, _, _, _, hn, _, _, _ => by simp only [GX.mk.sizeOf_spec] at hn; omega
  | n + 1, .mk _ _ _ _ l _, v, lo, hi, lo', hi', hn, h1, h2, h => by
    unfold GW at h ⊢
    refine ⟨h.1, ?_⟩
    rcases h.2 with h3 | ⟨g, cs, h3, h4, h5, h6, h7⟩
    · exact .inl h3
    · refine .inr ⟨g, cs, h3, by omega, by omega, h6, GWs.front h1 (fun {y} {u} {a} {a'} {b} hy ha hw => GW.monoN n (by
        have := List.sizeOf_lt_of_mem hy
        simp only [GX.mk.sizeOf_spec] at hn
        omega) ha (Nat.le_refl b) hw) h7⟩
theorem GW.mono {w : World} {lo hi lo' hi' : Nat} (h1 : lo' ≤ lo) (h2 : hi ≤ hi') {x : GX} {v : EV} (h : GW w lo hi x v) : GW w lo' hi' x v := GW.monoN _ (Nat.le_refl _) h1 h2 h

theorem GW.below {w w' : World} {lo hi : Nat} {x : GX} {v : EV} (h : GW w lo hi x v) (hb : Below w.heap.size w w') (hh : hi ≤ w.heap.size) : GW w' lo hi x v := h.same (fun g _ h2 => hb.block g (by omega))
theorem GW.mv {w w' : World} {lo b : Nat} {x : GX} {v : EV} (h : GW w lo w.heap.size x v) (hm : Mv b w w') (hb : b < lo) : GW w' lo w'.heap.size x v :=
  (h.same (fun g h1 h2 => hm.block h2 (by omega))).mono (Nat.le_refl _) (World.grownBy.size hm)

/-- New nodes. -/
theorem GW.leaf (w : World) (lo hi : Nat) (k n o p : Int) (S : ByteArray) : GW w lo hi (.mk k n S.data.toList o [] p) ⟨k, n, S, o, none, 0, 0, p⟩ := by
  unfold GW
  exact ⟨⟨rfl, rfl, rfl, rfl, rfl, rfl, Nat.le_refl _, Nat.zero_le _⟩, .inl rfl⟩
theorem GW.one_new {w : World} {lo : Nat} {x : GX} {v : EV} (h : GW w lo w.heap.size x v) (hlo : lo ≤ w.heap.size) (op p : Int) :
    GW (w.alloc (.cells #[.int .i64 v.kind, .int .i64 v.num, .string v.name, .int .i64 v.op, .slice v.A v.len v.cap, .int .i64 v.p] 54)) lo (w.heap.size + 1) (.mk 4 0 [] op [x] p) ⟨4, 0, ⟨#[]⟩, op, some ⟨w.heap.size, 0, none⟩, 1, 1, p⟩ := by
  unfold GW
  refine ⟨⟨rfl, rfl, rfl, rfl, rfl, rfl, Nat.le_refl _, (by decide : 1 ≤ maxLen)⟩, .inr ⟨w.heap.size, _, rfl, hlo, by omega, heap_alloc_new w _, ?_⟩⟩
  unfold GWs GWs
  exact ⟨w.heap.size, v, hlo, Nat.le_refl _, EvAt.of (heap_alloc_new w _) (fun j u hu => by simpa [EV.cells] using hu), h.same (fun _ _ h2 => heap_alloc_old w _ h2), Nat.le_refl _⟩
/-- A row of two, its parts in stretches of their own. -/
theorem GW.both_of {W : World} {lo m hi g : Nat} {x y : GX} {v u : EV} (hx : GW W lo m x v) (hy : GW W m g y u) (h1 : lo ≤ m) (h2 : m ≤ g) (h3 : g < hi) {cs : Array Value} (hg : W.heap[g]? = some (.cells cs 54 (0, 0))) (e1 : EvAt W g 0 v) (e2 : EvAt W g 6 u) (op p : Int) :
    GW W lo hi (.mk 5 0 [] op [x, y] p) ⟨5, 0, ⟨#[]⟩, op, some ⟨g, 0, none⟩, 2, 2, p⟩ := by
  unfold GW
  refine ⟨⟨rfl, rfl, rfl, rfl, rfl, rfl, Nat.le_refl _, (by decide : 2 ≤ maxLen)⟩, .inr ⟨g, cs, rfl, by omega, h3, hg, ?_⟩⟩
  unfold GWs GWs GWs
  exact ⟨m, v, h1, h2, e1, hx, g, u, h2, Nat.le_refl _, e2, hy, Nat.le_refl _⟩

end Go.Proofs.YtcddbfdbhjkjgaaGreatDoor
