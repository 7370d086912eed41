/-
  The document's own answers for layer 2: Close and Open.
-/
import Derived.Test.YtgiepkiogjkjjaaSBack
namespace Go.Proofs.Ytgiepkiogjkjjaa
open Go.RowKit

set_option maxHeartbeats 1600000 in
set_option maxRecDepth 20000 in
theorem rclose_all (w : World) (a : Option Addr) (len cap : Nat) (bs : List Int) (h : Src w a len cap bs) (hnil : a = none → cap = 0) :
    Calls Try.prog 15 #[.slice a len cap] w fun e w' => ∃ v, e = .returned (.tuple #[v, .int .i64 (clCode len)]) ∧ Coded w w' v (clRow bs) := by
  have hsz := h.size
  by_cases hl : len ≤ 1048576
  rotate_left
  · have h' : (1048576 : Int) < len := by omega
    rw [show clCode len = 2 from if_neg hl, show clRow bs = [] from if_neg (by omega)]
    clear hsz
    go_enter Try.func15, Try.ntmps15
    go_wp2_with fail
    go_ret2
    exact ⟨_, rfl, Coded.nil w⟩
  have h' : ¬ (1048576 : Int) < len := by omega
  rw [show clCode len = 0 from if_pos hl, show clRow bs = frame bs from if_pos (by omega)]
  have H := Lib.hid h
  have HN := Lib.hid hnil
  have HSZ := Lib.hid hsz
  have hel := enc_length len (by omega)
  clear h hnil hsz
  go_enter Try.func15, Try.ntmps15
  go_wp2_with fail
  refine (ruint_pos len w (by omega)).mono ?_
  rintro e w1 ⟨v1, rfl, ⟨g1, c1, rfl, ho1⟩, hb1⟩
  have HO1 := Lib.hid ho1
  have HB1 := Lib.hid hb1
  clear ho1 hb1
  go_wp2_with (at_builtin; refine wpl_append_src rfl (.tmp 16) (.tmp 17) rfl w.heap.size _ _ _ rfl HO1.out a len cap bs (H.out.below HB1.out) HN.out rfl (by omega) HB1.out.size ?_)
  intro v2 w2 own2 gr2
  have HO2 : Hid (w2.ownsRow w.heap.size 5 1 v2 ((enc len).length + len) ((enc len ++ bs).map (Value.int .u8))) := by
    unfold Hid
    rw [List.map_append]; exact own2
  have HB2 := Lib.hid (HB1.out.grown gr2 HB1.out.size (fun k h => (HO1.out.lt k h).1))
  clear own2 gr2 HO1
  obtain ⟨a2, c2, rfl, hs2, -⟩ := row_src HO2.out (fun x hx => by
    rcases List.mem_append.1 hx with hx | hx
    · exact enc_range _ x hx
    · exact H.out.bytes x hx) (by omega)
  have HS2 := Lib.hid hs2
  clear hs2
  go_wp2_with fail
  refine (rsum_any w2 _ _ _ _ HS2.out).mono ?_
  rintro e w3 ⟨rfl, rfl⟩
  have hcl := crcN_lt (enc len ++ bs)
  obtain ⟨s, hs⟩ : ∃ s, s = crcN (enc len ++ bs) := ⟨_, rfl⟩
  rw [← hs] at hcl ⊢
  have HC := Lib.hid hs
  have HV := Lib.hid (be4_vals s hcl)
  clear hs
  have hsrc := src_made w2 (be4 s) (0, 0) 4 rfl (by omega) (be4_range s)
  rw [HV.out] at hsrc
  have HSR := Lib.hid hsrc
  clear hsrc
  go_wp2_with (at_builtin; refine wpl_append_src rfl (.tmp 21) (.tmp 33) rfl w.heap.size _ _ _ rfl (HO2.out.alloc _) _ 4 4 (be4 s) HSR.out (fun h => by cases h) rfl (by omega) (by have := HB2.out.size; simp; omega) ?_)
  intro v4 w4 own4 gr4
  have HO4 : Hid (w4.ownsRow w.heap.size 5 1 v4 (frame bs).length ((frame bs).map (Value.int .u8))) := by
    unfold Hid
    rw [frame_length, HSZ.out, frame, HSZ.out, ← HC.out, List.map_append, List.map_append, List.append_assoc]
    exact own4
  have HB4 := Lib.hid ((HB2.out.alloc HB2.out.size _).grown gr4 (by have := HB2.out.size; simp; omega) (fun k h => (HO2.out.lt k h).1))
  clear own4 gr4
  go_wp2_with fail
  go_ret2
  exact ⟨v4, rfl, HO4.out, HB4.out⟩

/-- Four bytes and the number that they stand for. -/
theorem four_bytes (l : List Int) (k c : Nat) (hx : ∀ x ∈ l, 0 ≤ x ∧ x < 256) (hk : k + 4 ≤ l.length) (hc : c < 4294967296) :
    ((l.drop k).take 4 = be4 c) = ((c : Int) = l.getD k 0 * 16777216 + l.getD (k + 1) 0 * 65536 + l.getD (k + 2) 0 * 256 + l.getD (k + 3) 0) := by
  have hg : ∀ i, i < 4 → ∃ x, l[k + i]? = some x ∧ l.getD (k + i) 0 = x ∧ 0 ≤ x ∧ x < 256 := by
    intro i hi
    have h1 : k + i < l.length := by omega
    refine ⟨l[k + i], List.getElem?_eq_getElem h1, by simp [List.getD, List.getElem?_eq_getElem h1], hx _ (List.getElem_mem h1)⟩
  obtain ⟨x0, e0, d0, b0⟩ := hg 0 (by omega)
  obtain ⟨x1, e1, d1, b1⟩ := hg 1 (by omega)
  obtain ⟨x2, e2, d2, b2⟩ := hg 2 (by omega)
  obtain ⟨x3, e3, d3, b3⟩ := hg 3 (by omega)
  have hl : (l.drop k).take 4 = [x0, x1, x2, x3] := by
    apply List.ext_getElem?
    intro i
    by_cases hi : i < 4
    · rw [List.getElem?_take_of_lt hi, List.getElem?_drop]
      match i, hi with
      | 0, _ => simpa using e0
      | 1, _ => simpa using e1
      | 2, _ => simpa using e2
      | 3, _ => simpa using e3
    · rw [List.getElem?_eq_none (by simp; omega), List.getElem?_eq_none (by simp; omega)]
  simp only [Nat.add_zero] at d0
  rw [hl, d0, d1, d2, d3]
  unfold be4
  simp only [List.cons.injEq, and_true, eq_iff_iff]
  omega

end Go.Proofs.Ytgiepkiogjkjjaa
