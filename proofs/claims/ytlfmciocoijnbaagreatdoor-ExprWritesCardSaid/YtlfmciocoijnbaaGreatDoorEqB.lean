/-
  The document's writer of expressions: a page of bytes.
-/
import Derived.Test.YtlfmciocoijnbaaGreatDoorEwB
namespace Go.Proofs.YtlfmciocoijnbaaGreatDoor
open Go.RowKit

/-- A page that holds these bytes. -/
def PB (w : World) (B b : Nat) (l : List UInt8) : Prop :=
  B ≤ b ∧ ∃ v, w.heap[b]? = some (.cells #[v] 69 (0, 0)) ∧ w.ownsRow B 5 1 v l.length (Lib.byteCells l) ∧ v.ownBlock ≠ some b

/-- A text put behind bytes, as far as there is room. -/
def Pg (l t l' : List UInt8) : Prop := (l.length + t.length ≤ 16384 ∧ l' = l ++ t) ∨ (16384 < l.length + t.length ∧ 16384 < l'.length ∧ l'.length ≤ 16500)

theorem Pg.nil (l : List UInt8) (hl : l.length ≤ 16500) : Pg l [] l := by
  rcases Nat.lt_or_ge 16384 l.length with h | h
  · exact .inr ⟨by simpa using h, h, hl⟩
  · exact .inl ⟨by simpa using h, by simp⟩
theorem Pg.le {l t l' : List UInt8} (h : Pg l t l') : l'.length ≤ 16500 := by
  rcases h with ⟨h1, rfl⟩ | ⟨_, _, h⟩
  · rw [List.length_append]; omega
  · exact h
theorem Pg.trans {l t l' u l'' : List UInt8} (h : Pg l t l') (h' : Pg l' u l'') : Pg l (t ++ u) l'' := by
  rcases h with ⟨h1, rfl⟩ | ⟨h1, h2, h3⟩
  · rcases h' with ⟨h4, rfl⟩ | ⟨h4, h5, h6⟩
    · rw [List.length_append] at h4
      exact .inl ⟨by rw [List.length_append]; omega, by simp⟩
    · rw [List.length_append] at h4
      exact .inr ⟨by rw [List.length_append]; omega, h5, h6⟩
  · rcases h' with ⟨h4, rfl⟩ | ⟨h4, h5, h6⟩
    · omega
    · exact .inr ⟨by rw [List.length_append]; omega, h5, h6⟩
theorem Pg.full {l t : List UInt8} (h : 16384 < l.length) (hl : l.length ≤ 16500) : Pg l t l := .inr ⟨by omega, h, hl⟩

section
variable {w w' : World} {B b : Nat} {l : List UInt8}
theorem PB.lt (h : PB w B b l) : b < w.heap.size := by
  obtain ⟨_, v, hb, _⟩ := h
  exact heap_lt hb
theorem PB.c0 (h : PB w B b l) : ∃ ao cap, w.cell? ⟨b, 0, none⟩ = some (.slice ao l.length cap) := by
  obtain ⟨_, v, hb, ho, _⟩ := h
  obtain ⟨ao, cap, rfl⟩ : ∃ ao cap, v = .slice ao l.length cap := by
    rcases ho.2 with ⟨hv, h0⟩ | ⟨g, cap, cur, hv, _⟩
    · exact ⟨none, 0, by rw [hv, h0]⟩
    · exact ⟨_, _, hv⟩
  exact ⟨ao, cap, by rw [Lib.cell_of_heap hb]; rfl⟩
theorem PB.fr (h : PB w B b l) (i : Nat) : w.frozen? ⟨b, i, none⟩ = false := by
  obtain ⟨_, v, hb, _⟩ := h
  exact Lib.frozen_of_heap hb i
theorem PB.below {u : World} (h : PB w B b l) (hb' : Below w.heap.size w u) : PB u B b l := by
  have hlt := h.lt
  obtain ⟨hB, v, hb, ho, hne⟩ := h
  refine ⟨hB, v, (hb'.block b hlt).trans hb, ?_, hne⟩
  refine ⟨ho.1, ?_⟩
  rcases ho.2 with hh | ⟨g, cap, cur, h1, h2, h3, h4⟩
  · exact .inl hh
  · exact .inr ⟨g, cap, cur, h1, h2, (hb'.block g (heap_lt h3)).trans h3, h4⟩
theorem PB.alloc (h : PB w B b l) (o : Obj) : PB (w.alloc o) B b l := h.below ((Below.refl _ w).alloc (Nat.le_refl _) o)
end

theorem PB.put {w : World} {B b : Nat} {l' : List UInt8} {v v' : Value} (hB : B ≤ b) (hb : w.heap[b]? = some (.cells #[v] 69 (0, 0)))
    (ho : w.ownsRow B 5 1 v' l'.length (Lib.byteCells l')) : PB (w.setCell ⟨b, 0, none⟩ v') B b l' := by
  have hne := Lib.ownBlock_ne ho hb (by decide)
  exact ⟨hB, v', heap_setCell_same w b 0 _ _ _ hb, owns_set ho hne, hne⟩

theorem PB.new {w : World} {B : Nat} (hB : B ≤ w.heap.size) : PB (w.alloc (.cells #[.slice none 0 0] 69)) B w.heap.size [] :=
  ⟨hB, _, heap_alloc_new w _, World.ownsRow_nil _ _ _ _, by simp [Value.ownBlock]⟩

set_option maxHeartbeats 2000000 in
set_option maxRecDepth 100000 in
theorem pput_any (w : World) (B b : Nat) (l : List UInt8) (s : ByteArray) (h : PB w B b l) (hl : l.length ≤ 16500) (hs : s.size ≤ 100) (hBw : B ≤ w.heap.size) :
    Calls Tryz.prog 45 #[.pointer (some ⟨b, 0, none⟩), .string s] w fun e w' => e = .returned (.tuple #[]) ∧ (∃ l', PB w' B b l' ∧ Pg l s.data.toList l') ∧ Wk B b w w' := by
  obtain ⟨i0, hi, hz0, hz1, hz2⟩ := info_parts (show (Tryz.prog.info? 5).map (fun i => (i.zero, i.size, i.bytes)) = some (some (.int .u8 0), 1, 1) by kernel_rfl)
  have HP := Lib.hid h
  have HBL : Hid (b < w.heap.size) := h.lt
  have hsl : s.data.toList.length = s.size := rfl
  obtain ⟨hB, v, hbk, hown, hne⟩ := h
  obtain ⟨ao, cap, rfl⟩ : ∃ ao cap, v = .slice ao l.length cap := by
    rcases hown.2 with ⟨hv, h0⟩ | ⟨g, cap, cur, hv, _⟩
    · exact ⟨none, 0, by rw [hv, h0]⟩
    · exact ⟨_, _, hv⟩
  have c0 : w.cell? ⟨b, 0, none⟩ = some (.slice ao l.length cap) := by rw [Lib.cell_of_heap hbk]; rfl
  by_cases hc : l.length ≤ 16384
  · have hc' : (l.length : Int) ≤ 16384 := by omega
    go_enter Tryz.func45, Tryz.ntmps45
    go_wp2_with (at_builtin; refine Lib.wpList_append_own_string _ rfl _ _ 61 9 rfl B 5 i0 Tryz.underlying61 Tryz.underlying9 hi hz0 hz1 hz2 _ _ _ rfl hown s rfl ?c3 ?c4 ?c5 ?_)
    case c3 => unfold maxLen; omega
    case c4 => omega
    case c5 => exact hBw
    intro v' w2 hown' hgrow _
    have hlt : b < w.heap.size := HBL.out
    have hb2 : w2.heap[b]? = some (.cells #[.slice ao l.length cap] 69 (0, 0)) := by
      rw [hgrow.block b hlt (fun e => hne e.symm)]
      exact hbk
    have d0 : w2.cell? ⟨b, 0, none⟩ = some (.slice ao l.length cap) := by rw [Lib.cell_of_heap hb2]; rfl
    have f0 : w2.frozen? ⟨b, 0, none⟩ = false := Lib.frozen_of_heap hb2 0
    obtain ⟨ao2, n2, cap2, rfl⟩ : ∃ ao n' cap, v' = .slice ao n' cap := by
      rcases hown'.2 with ⟨hv, _⟩ | ⟨g, cap, cur, hv, _⟩
      · exact ⟨_, _, _, hv⟩
      · exact ⟨_, _, _, hv⟩
    go_wp2
    go_end0
    refine ⟨rfl, ⟨l ++ s.data.toList, ?_, ?_⟩, ?_⟩
    · refine PB.put hB hb2 ?_
      rw [Lib.byteCells_append, List.length_append]
      exact hown'
    · rcases Nat.lt_or_ge 16384 (l.length + s.data.toList.length) with h1 | h1
      · exact .inr ⟨h1, by rw [List.length_append]; exact h1, by rw [List.length_append]; omega⟩
      · exact .inl ⟨h1, rfl⟩
    · refine Wk.trans ⟨(Below.refl B w).grown hgrow hBw (fun k hk => (hown.lt k hk).1), fun g cs T fr hg hn ht => ?_⟩ (Wk.set hB 0 _)
      rw [hgrow.block g (heap_lt hg) (fun e => ?_)]
      · exact hg
      · rcases hown.2 with ⟨hv, _⟩ | ⟨g', cap', cur, hv, _, hg', _⟩
        · rw [hv] at e
          simp [Value.ownBlock] at e
        · rw [hv] at e
          simp only [Value.ownBlock, Option.some.injEq] at e
          subst e
          rw [hg'] at hg
          injection hg with hg
          injection hg with _ hT _
          exact ht hT.symm
  · have hc' : ¬ (l.length : Int) ≤ 16384 := by omega
    clear hown hbk
    go_enter Tryz.func45, Tryz.ntmps45
    go_wp2_with fail
    go_end0
    exact ⟨rfl, ⟨l, HP.out, Pg.full (by omega) hl⟩, Wk.refl B b w⟩

end Go.Proofs.YtlfmciocoijnbaaGreatDoor
