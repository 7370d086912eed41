/-
  Close: the program's.
-/
import Derived.Test.YtgiepkiogjkjjaaCloseA
namespace Go.Proofs.Ytgiepkiogjkjjaa
open Go.RowKit

/-- A frame. -/
def frame (bs : List Int) : List Int := enc bs.length ++ bs ++ be4 (crcN (enc bs.length ++ bs))

theorem frame_length (bs : List Int) : (frame bs).length = (enc bs.length).length + bs.length + 4 := by
  simp only [frame, List.length_append, be4_length]

theorem frame_range {bs : List Int} (h : ∀ x ∈ bs, 0 ≤ x ∧ x < 256) : ∀ x ∈ frame bs, 0 ≤ x ∧ x < 256 := by
  intro x hx
  simp only [frame, List.mem_append] at hx
  rcases hx with (hx | hx) | hx
  · exact enc_range _ x hx
  · exact h x hx
  · exact be4_range _ x hx

theorem TabAt.below {w w' : World} {B G : Nat} (h : TabAt w B) (hb : Below G w w') (hG : B < G) : TabAt w' B := by
  obtain ⟨cur, h1, h2⟩ := h
  exact ⟨cur, by rw [hb.block B hG]; exact h1, h2⟩

theorem Only.belowB {B : Nat} {w w' : World} (h : Only B w w') (hB : B ≤ w.heap.size) : Below B w w' :=
  ⟨h.1.os, h.1.tape, h.1.output, h.1.size, fun k hk => h.1.block k (by omega) (by simp; omega)⟩

theorem Src.gone {w : World} {a : Option Addr} {len cap B : Nat} {bs : List Int} (h : Src w a len cap bs) (hB : bs ≠ [] → ∀ b off, a = some ⟨b, off, none⟩ → b ≠ B) {w' : World} (hs : ∀ k, k < w.heap.size → k ≠ B → w'.heap[k]? = w.heap[k]?) : Src w' a len cap bs := by
  refine ⟨?_, h.size, h.small, h.caps, h.bytes⟩
  rcases h.reads with h0 | ⟨b, off, ha, hc⟩
  · exact .inl h0
  · have hne : bs ≠ [] ∨ bs = [] := by cases bs <;> simp
    rcases hne with hne | hne
    rotate_left
    · exact .inl hne
    refine .inr ⟨b, off, ha, fun i hi => ?_⟩
    have h1 := hc i hi
    have h2 := World.block_lt_of_cell? w _ h1
    rw [← h1]
    exact World.cell?_of_block (w := w) (hs b h2 (hB hne b off ha))

/-- A row of slices of bytes that is made behind a table. -/
theorem parts_tab (w : World) (ps : List Piece) (h : ∀ p ∈ ps, Src w p.a p.len p.cap p.bs) :
    PartsAt ((w.alloc (.cells zero256 44)).alloc (.cells (ps.map Piece.val).toArray 22)) w.heap.size (some ⟨w.heap.size + 1, 0, none⟩) ps where
  cells := fun i p hp => by
    refine ⟨w.heap.size + 1, 0, rfl, by omega, ?_⟩
    have e : w.heap.size + 1 = (w.alloc (.cells zero256 44)).heap.size := by simp
    rw [Nat.zero_add, e, cell_of_row _ _ i _ _ _ (heap_alloc_new _ _)]
    simp [hp]
  srcs := fun p hp => ⟨((h p hp).alloc _).alloc _, (h p hp).ahead (Nat.le_refl _)⟩

theorem tab_tab (w : World) (o : Obj) : TabAt ((w.alloc (.cells zero256 44)).alloc o) w.heap.size :=
  (TabAt.alloc w).below ((Below.refl _ _).alloc (Nat.le_refl _) o) (by simp)

theorem parts_at (W : World) (B : Nat) (hB : B = W.heap.size) (C : Array Value) (ps : List Piece) (hC : (ps.map Piece.val).toArray = C) (h : ∀ p ∈ ps, Src W p.a p.len p.cap p.bs) : PartsIn (W.alloc (.cells C 22)) (some ⟨B, 0, none⟩) ps := by
  subst hB
  subst hC
  exact parts_made W ps h

theorem Made.mono {w : World} {G G' : Nat} {v : Value} {xs : List Int} (h : Made w G v xs) (hG : G' ≤ G) : Made w G' v xs := by
  obtain ⟨g, c, hv, ho⟩ := h
  exact ⟨g, c, hv, ownsRow_mono ho hG⟩

set_option maxRecDepth 20000 in
theorem close_long (w : World) (a : Option Addr) (len cap : Nat) (h : 1048576 < len) :
    Calls Try.prog 14 #[.slice a len cap] w fun e w' => e = .returned (.tuple #[.slice none 0 0, .int .i64 2]) ∧ w = w' := by
  have h' : (1048576 : Int) < len := by omega
  go_enter Try.func14, Try.ntmps14
  go_wp2_with fail
  go_ret2
  exact ⟨rfl, rfl⟩

set_option maxHeartbeats 1600000 in
set_option maxRecDepth 20000 in
theorem close_short (w : World) (a : Option Addr) (len cap : Nat) (bs : List Int) (h : Src w a len cap bs) (hnil : a = none → cap = 0) (hl : len ≤ 1048576) :
    Calls Try.prog 14 #[.slice a len cap] w fun e w' => ∃ v, e = .returned (.tuple #[v, .int .i64 0]) ∧ Made w' w.heap.size v (frame bs) ∧ Below w.heap.size w w' := by
  have h' : ¬ (1048576 : Int) < len := by omega
  have H := Lib.hid h
  have HN := Lib.hid hnil
  have hz := zeroTab
  have hel := enc_length len (by omega)
  have hep := enc_length_pos len
  clear h hnil
  go_enter Try.func14, Try.ntmps14
  go_wp2_with fail
  refine (uint_pos len w (by omega)).mono ?_
  rintro e w1 ⟨g, c, rfl, hown, hb⟩
  obtain ⟨_, _, hv1, hs1, _⟩ := row_src hown (enc_range len) (by omega)
  simp only [Value.slice.injEq] at hv1
  obtain ⟨rfl, -, rfl⟩ := hv1
  have HS1 := Lib.hid hs1
  have HB1 := Lib.hid hb
  clear hown hb hs1
  go_wp2_with fail
  refine (tsum_any _ w1.heap.size 2 2 _ [⟨some ⟨g, 0, none⟩, (enc len).length, c, enc len⟩, ⟨a, len, cap, bs⟩] (tab_tab w1 _) (parts_tab w1 _ (fun p hp => ?_)) rfl (by omega)).mono ?_
  · simp only [List.mem_cons, List.not_mem_nil, or_false] at hp
    rcases hp with rfl | rfl
    · exact HS1.out
    · exact H.out.below HB1.out
  rintro e w2 ⟨rfl, -, ho2⟩
  have HB2 := Lib.hid ((((Below.refl w1.heap.size w1).alloc (Nat.le_refl _) _).alloc (by simp) _).trans (ho2.belowB (by simp; omega)))
  rw [flat_two]
  simp only []
  have hcl := crcN_lt (enc len ++ bs)
  clear ho2
  obtain ⟨s, hs⟩ : ∃ s, s = crcN (enc len ++ bs) := ⟨_, rfl⟩
  rw [← hs] at hcl ⊢
  have HS := Lib.hid hs
  clear hs
  go_wp2_with fail
  refine (tail_any s w2 hcl).mono ?_
  rintro e w3 ⟨rfl, rfl⟩
  go_wp2_with fail
  refine (concat_any _ 3 3 _ [⟨some ⟨g, 0, none⟩, (enc len).length, c, enc len⟩, ⟨a, len, cap, bs⟩, ⟨some ⟨w2.heap.size, 0, none⟩, 4, 4, be4 s⟩] (parts_at (w2.alloc (.cells ((be4 s).map (Value.int .u8)).toArray 5)) (w2.heap.size + 1) (by simp) _ _ rfl (fun p hp => ?_)) (fun p hp => ?_) rfl (by omega) ?_ ?_).mono ?_
  · simp only [List.mem_cons, List.not_mem_nil, or_false] at hp
    rcases hp with rfl | rfl | rfl
    · exact (HS1.out.below HB2.out).alloc _
    · exact ((H.out.below HB1.out).below HB2.out).alloc _
    · exact src_made w2 (be4 s) (0, 0) 4 rfl (by omega) (be4_range s)
  · simp only [List.mem_cons, List.not_mem_nil, or_false] at hp
    rcases hp with rfl | rfl | rfl
    · intro h; cases h
    · exact HN.out
    · intro h; cases h
  · rw [flat_three]
    simp only [List.length_append, be4_length, H.out.size]
    omega
  · rw [flat_three]
    simp only [List.length_append, be4_length]
    omega
  rintro e w4 ⟨v, rfl, hm, hb4⟩
  rw [flat_three] at hm
  simp only [] at hm
  have HM := Lib.hid hm
  have HB4 := Lib.hid hb4
  clear hm hb4
  go_wp2_with fail
  go_ret2
  have e1 : enc len ++ bs ++ be4 s = frame bs := by
    unfold frame
    rw [H.out.size, HS.out]
  rw [e1] at HM
  have hz12 : w.heap.size ≤ w2.heap.size := Nat.le_trans HB1.out.size HB2.out.size
  refine ⟨v, rfl, HM.out.mono (by simp; omega), ?_⟩
  have hb2 := HB1.out.trans (HB2.out.mono HB1.out.size)
  exact ((hb2.alloc hz12 _).alloc (by simp; omega) _).trans (HB4.out.mono (by simp; omega))

end Go.Proofs.Ytgiepkiogjkjjaa
