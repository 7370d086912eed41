/-
  The law SealSums: its walk.
-/
import Derived.Test.YtgiepkiogjkjjaaSealA
import Derived.Test.YtgiepkiogjkjjaaCounts
import Derived.Lib.SmallJoins
namespace Go.Proofs.Ytgiepkiogjkjjaa
open Go.RowKit

/-- A row of slices of bytes that is made just now. -/
theorem parts_made (W : World) (ps : List Piece) (h : ∀ p ∈ ps, Src W p.a p.len p.cap p.bs) : PartsIn (W.alloc (.cells (ps.map Piece.val).toArray 22)) (some ⟨W.heap.size, 0, none⟩) ps where
  cells := fun i p hp => by
    refine ⟨W.heap.size, 0, rfl, ?_⟩
    rw [Nat.zero_add, cell_of_row _ W.heap.size i _ _ _ (heap_alloc_new W _)]
    simp [hp]
  srcs := fun p hp => (h p hp).alloc _

/-- Bytes that are made just now. -/
theorem src_made (W : World) (xs : List Int) (fr : Nat × Nat) (n : Nat) (hn : xs.length = n) (hl : n ≤ 1000000000000000) (hx : ∀ x ∈ xs, 0 ≤ x ∧ x < 256) :
    Src (W.alloc (.cells (xs.map (Value.int .u8)).toArray 5 fr)) (some ⟨W.heap.size, 0, none⟩) n n xs where
  reads := .inr ⟨W.heap.size, 0, rfl, fun i hi => by
    rw [Nat.zero_add, World.cell?_alloc_mark]
    simp [List.getD, List.getElem?_eq_getElem hi]⟩
  size := hn
  small := hl
  caps := ⟨Nat.le_refl _, by unfold maxLen; omega⟩
  bytes := hx

theorem upd9_0 : upd 4294967295 49 = 2667302803 := by kernel_rfl
theorem upd9_1 : upd 2667302803 50 = 1072455274 := by kernel_rfl
theorem upd9_2 : upd 1072455274 51 = 3646091620 := by kernel_rfl
theorem upd9_3 : upd 3646091620 52 = 2794833066 := by kernel_rfl
theorem upd9_4 : upd 2794833066 53 = 3181033287 := by kernel_rfl
theorem upd9_5 : upd 3181033287 54 = 3639635087 := by kernel_rfl
theorem upd9_6 : upd 3639635087 55 = 227153092 := by kernel_rfl
theorem upd9_7 : upd 227153092 56 = 1239663355 := by kernel_rfl
theorem upd9_8 : upd 1239663355 57 = 58124007 := by kernel_rfl

theorem nine_sum (a b c : Option Addr) (l m n i j k : Nat) : crcN (flat [⟨a, l, i, [49, 50]⟩, ⟨b, m, j, []⟩, ⟨c, n, k, [51, 52, 53, 54, 55, 56, 57]⟩]) = 4236843288 := by
  unfold crcN
  simp only [flat, List.flatMap_cons, List.flatMap_nil, List.cons_append, List.nil_append, crcR_cons, crcR_nil, Int.reduceToNat, upd9_0, upd9_1, upd9_2, upd9_3, upd9_4, upd9_5, upd9_6, upd9_7, upd9_8]

theorem flat_two (p q : Piece) : flat [p, q] = p.bs ++ q.bs := by simp [flat]
theorem flat_three (p q r : Piece) : flat [p, q, r] = p.bs ++ q.bs ++ r.bs := by simp [flat]

/-- Lent bytes, as a source. -/
theorem BlockIs.lent {w : World} {g len : Nat} {bs : List Int} (h : BlockIs w g (bs ++ [77])) (hs : bs.length = len) (hl : len ≤ 1000000000000000) (hx : ∀ x ∈ bs, 0 ≤ x ∧ x < 256) : Src w (some ⟨g, 0, none⟩) len (len + 1) bs := by
  have := h.src len (by simp; omega) (by simp; omega) (fun x hm => by
    rcases List.mem_append.1 hm with hm | hm
    · exact hx x hm
    · rw [List.mem_singleton] at hm; subst hm; exact ⟨by decide, by decide⟩)
  have e1 : (bs ++ [77]).take len = bs := by rw [← hs]; simp
  have e2 : (bs ++ [77]).length = len + 1 := by simp [hs]
  rw [e1, e2] at this
  exact this

set_option maxHeartbeats 800000 in
set_option maxRecDepth 20000 in
theorem sums_any (w : World) (a : Option Addr) (len cap : Nat) (bs : List Int) (b : Option Addr) (lb cb : Nat) (cs : List Int) (h : Src w a len cap bs) (hnil : a = none → cap = 0) (hb : Src w b lb cb cs) (hbn : b = none → cb = 0) :
    Calls Try.prog 3 #[.slice a len cap, .slice b lb cb] w fun e w' => e = .returned (.bool true) ∧ Below w.heap.size w w' := by
  by_cases h1 : 1048576 < len
  · have h1' : (1048576 : Int) < len := by omega
    go_enter Try.func3, Try.ntmps3
    go_wp2_with fail
    go_ret
    exact ⟨rfl, Below.refl _ _⟩
  by_cases h2 : 1048576 < lb
  · have h1' : ¬ (1048576 : Int) < len := by omega
    have h2' : (1048576 : Int) < lb := by omega
    go_enter Try.func3, Try.ntmps3
    go_wp2_with fail
    go_ret
    exact ⟨rfl, Below.refl _ _⟩
  have h1' : ¬ (1048576 : Int) < len := by omega
  have h2' : ¬ (1048576 : Int) < lb := by omega
  have H := Lib.hid h
  have HB := Lib.hid hb
  have HN := Lib.hid hnil
  have HBN := Lib.hid hbn
  have HL := Lib.hid (lent_any w a len cap bs h (by omega))
  clear h hb hnil hbn
  go_enter Try.func3, Try.ntmps3
  go_wp2_with fail
  refine HL.out.mono ?_
  rintro e w1 ⟨rfl, hbk, hb1⟩
  have HBK1 := Lib.hid hbk
  have HB1 := Lib.hid hb1
  clear hbk hb1
  go_wp2_with fail
  refine (ssum_any _ 2 2 _ [⟨some ⟨w.heap.size, 0, none⟩, len, len + 1, bs⟩, ⟨b, lb, cb, cs⟩] (parts_made w1 _ (fun p hp => ?_)) rfl (by omega)).mono ?_
  · simp only [List.mem_cons, List.not_mem_nil, or_false] at hp
    rcases hp with rfl | rfl
    · exact HBK1.out.lent H.out.size H.out.small H.out.bytes
    · exact HB.out.below HB1.out
  rintro e w2 ⟨rfl, hb2⟩
  rw [flat_two]
  simp only []
  have HB2 := Lib.hid (((Below.refl w1.heap.size w1).alloc (Nat.le_refl _) _).trans (hb2.mono (by simp)))
  have HBK2 := Lib.hid (HBK1.out.below HB2.out HBK1.out.lt)
  have HB2' := Lib.hid (HB1.out.trans (HB2.out.mono HB1.out.size))
  clear hb2
  go_wp2_with fail
  refine (kept_any w2 _ a len cap bs (H.out.below HB2'.out) HBK2.out).mono ?_
  rintro e w3 ⟨rfl, rfl⟩
  clear HBK2 HBK1 HB2 HB1
  go_wp2_with (at_builtin; refine wpl_append_src rfl (.tmp 26) (.tmp 27) rfl w2.heap.size _ 0 [] rfl (ownsRow_empty w2) _ _ cap _ (H.out.below (HB2'.out.trans ((Below.refl _ w2).alloc HB2'.out.size _))) HN.out rfl (by omega) (by simp) ?_)
  intro v5 w5 own5 gr5
  have HO5 := Lib.hid own5
  have HG5 := Lib.hid ((((Below.refl w2.heap.size w2).alloc (Nat.le_refl _) _).grown gr5 (by simp) (fun k h => ((ownsRow_empty w2).lt k h).1)))
  clear own5 gr5
  go_wp2_with (at_builtin; refine wpl_append_src rfl (.tmp 28) (.tmp 29) rfl w2.heap.size _ _ _ rfl HO5.out b lb cb cs (HB.out.below (HB2'.out.trans (HG5.out.mono HB2'.out.size))) HBN.out rfl (by omega) HG5.out.size ?_)
  intro v6 w6 own6 gr6
  have HG6 := Lib.hid (HG5.out.grown gr6 HG5.out.size (fun k h => (HO5.out.lt k h).1))
  obtain ⟨ao6, cp6, hv6, hsrc6, _⟩ := row_src (n := len + lb) (xs := bs ++ cs) (by simpa using own6) (fun x hx => by
    rcases List.mem_append.1 hx with hx | hx
    · exact H.out.bytes x hx
    · exact HB.out.bytes x hx) (by omega)
  have HS6 := Lib.hid hsrc6
  have HB6 := Lib.hid (HB2'.out.trans (HG6.out.mono HB2'.out.size))
  clear own6 gr6 hsrc6 HO5 HG5 HG6 HB2'
  subst hv6
  go_wp2_with fail
  refine (rsum_any w6 _ _ _ _ HS6.out).mono ?_
  rintro e w7 ⟨rfl, rfl⟩
  obtain ⟨n, hn⟩ : ∃ n, n = crcN (bs ++ cs) := ⟨_, rfl⟩
  rw [← hn]
  clear hn HS6
  have hnn : ((n : Int) == (n : Int)) = true := by simp
  have kc1 := Joins.run_convert_bytes_const_at (P := Try.prog) w6 22 5 #[.int .u8 49, .int .u8 50] 2 2 _ rfl Try.underlying22 Try.underlying5
  have kc2 := Joins.run_convert_bytes_const_at (P := Try.prog) (w6.alloc (.cells #[.int .u8 49, .int .u8 50] 5 (2, 3))) 22 5 #[.int .u8 51, .int .u8 52, .int .u8 53, .int .u8 54, .int .u8 55, .int .u8 56, .int .u8 57] 7 7 (w6.heap.size + 1) (by simp) Try.underlying22 Try.underlying5
  simp only [List.size_toArray, List.length_cons, List.length_nil, Nat.zero_add, Nat.reduceAdd] at kc1 kc2
  go_wp2_with fail
  have h12 := src_made w6 [49, 50] (2, 3) 2 rfl (by omega) (by decide)
  have h37 := src_made (w6.alloc (.cells #[.int .u8 49, .int .u8 50] 5 (2, 3))) [51, 52, 53, 54, 55, 56, 57] (7, 8) 7 rfl (by omega) (by decide)
  refine (ssum_any _ 3 3 _ [⟨some ⟨w6.heap.size, 0, none⟩, 2, 2, [49, 50]⟩, ⟨none, 0, 0, []⟩, ⟨some ⟨w6.heap.size + 1, 0, none⟩, 7, 7, [51, 52, 53, 54, 55, 56, 57]⟩] ?_ rfl (by omega)).mono ?_
  · have := parts_made ((w6.alloc (.cells #[.int .u8 49, .int .u8 50] 5 (2, 3))).alloc (.cells #[.int .u8 51, .int .u8 52, .int .u8 53, .int .u8 54, .int .u8 55, .int .u8 56, .int .u8 57] 5 (7, 8))) [⟨some ⟨w6.heap.size, 0, none⟩, 2, 2, [49, 50]⟩, ⟨none, 0, 0, []⟩, ⟨some ⟨w6.heap.size + 1, 0, none⟩, 7, 7, [51, 52, 53, 54, 55, 56, 57]⟩] (fun p hp => by
      simp only [List.mem_cons, List.not_mem_nil, or_false] at hp
      rcases hp with rfl | rfl | rfl
      · exact h12.alloc _
      · exact src_nil _
      · simpa using h37)
    simpa [Piece.val] using this
  rintro e w8 ⟨rfl, hb8⟩
  rw [nine_sum]
  have HB8 := Lib.hid hb8
  clear hb8 kc1 kc2 h12 h37
  go_wp2_with fail
  go_ret
  refine ⟨rfl, HB6.out.trans (Below.trans ?_ (HB8.out.mono ?_))⟩
  · exact (((Below.refl _ w6).alloc HB6.out.size _).alloc (by have := HB6.out.size; simp; omega) _).alloc (by have := HB6.out.size; simp; omega) _
  · have := HB6.out.size
    simp; omega

theorem sums_walk (a0 : Option Addr) (len0 cap0 : Nat) (z0 : List Int) (a1 : Option Addr) (len1 cap1 : Nat) (z1 : List Int) (w : World) (w0 : IsRow .u8 w a0 len0 cap0 z0) (s0 : cap0 * 1 ≤ 140737488351232) (w1 : IsRow .u8 w a1 len1 cap1 z1) (s1 : cap1 * 1 ≤ 140737488351232) :
    Calls Try.prog 3 #[.slice a0 len0 cap0, .slice a1 len1 cap1] w fun e w' => e = .returned (.bool true) ∧ Below w.heap.size w w' :=
  sums_any w a0 len0 cap0 (z0.take len0) a1 len1 cap1 (z1.take len1) (src_of_row w0 s0) (nil_of_row w0) (src_of_row w1 s1) (nil_of_row w1)

end Go.Proofs.Ytgiepkiogjkjjaa
