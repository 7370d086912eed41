/-
  Open, of a table of its own; what Open tells of frames, in plain lists.
-/
import Derived.Test.YtgiepkiogjkjjaaOpenT
namespace Go.Proofs.Ytgiepkiogjkjjaa
open Go.RowKit

set_option maxRecDepth 20000 in
theorem open_any (w : World) (a : Option Addr) (len cap : Nat) (bs : List Int) (h : Src w a len cap bs) :
    Calls Try.prog 16 #[.slice a len cap] w fun e w' =>
      ∃ v, e = .returned (.tuple #[v, .int .i64 ((opF bs).2.1 : Nat), .int .i64 (opF bs).2.2]) ∧ w'.ownsRow w.heap.size 5 1 v (opF bs).1.length ((opF bs).1.map (Value.int .u8)) ∧ Below w.heap.size w w' := by
  have HV := Lib.hid (topen_any (w.alloc (.cells zero256 44)) w.heap.size a len cap bs (TabAt.alloc w) (h.alloc _) (h.ahead (Nat.le_refl _)))
  have hz := zeroTab w
  generalize opF bs = T at *
  clear h
  go_enter Try.func16, Try.ntmps16
  go_wp2_with fail
  refine HV.out.mono ?_
  rintro e w1 ⟨v, rfl, ho, -, hg⟩
  have HO := Lib.hid ho
  have HG := Lib.hid hg
  clear ho hg hz
  go_wp2_with fail
  go_ret3
  exact ⟨v, rfl, ownsRow_mono HO.out (by simp), HG.out.below⟩

theorem frame_enc (bs : List Int) (l : List Int) : frame bs ++ l = enc bs.length ++ (bs ++ (be4 (crcN (enc bs.length ++ bs)) ++ l)) := by
  simp [frame, List.append_assoc]

/-- What was framed is opened, whatever follows. -/
theorem opF_back (bs l : List Int) (h : bs.length ≤ 1048576) : opF (frame bs ++ l) = (bs, (frame bs).length, 0) := by
  unfold opF
  have ht : tkF M63 true 0 0 (frame bs ++ l) = (bs.length, (enc bs.length).length, 0) := by
    rw [frame_enc, take_back _ (by unfold M63; omega)]
    simp
  rw [ht]
  simp only []
  have hd : (frame bs ++ l).drop ((enc bs.length).length + bs.length) = be4 (crcN (enc bs.length ++ bs)) ++ l := by
    rw [frame_enc, ← List.append_assoc, ← List.length_append, List.drop_left]
  have hk : (frame bs ++ l).take ((enc bs.length).length + bs.length) = enc bs.length ++ bs := by
    rw [frame_enc, ← List.append_assoc, ← List.length_append, List.take_left]
  have hm : ((frame bs ++ l).drop (enc bs.length).length).take bs.length = bs := by
    rw [frame_enc, List.drop_left, List.take_left]
  have hb : (be4 (crcN (enc bs.length ++ bs)) ++ l).take 4 = be4 (crcN (enc bs.length ++ bs)) := by
    have := List.take_left (l₁ := be4 (crcN (enc bs.length ++ bs))) (l₂ := l)
    rwa [be4_length] at this
  rw [if_neg (by simp), if_neg (by omega), if_neg (by rw [List.length_append, frame_length]; omega), hd, hk, hm, hb, if_pos rfl, frame_length]

/-- What is opened was framed so. -/
theorem opF_form {bs : List Int} (hx : ∀ x ∈ bs, 0 ≤ x ∧ x < 256) (h : (opF bs).2.2 = 0) :
    bs.take (opF bs).2.1 = frame (opF bs).1 ∧ (opF bs).1.length ≤ 1048576 ∧ (opF bs).2.1 ≤ bs.length ∧ (opF bs).2.1 = (frame (opF bs).1).length := by
  unfold opF at h ⊢
  have ht := tkF_told (most := M63) bs true 0 0
  have hf := fun h => take_form (most := M63) (i := 0) hx h
  generalize tkF M63 true 0 0 bs = r at *
  obtain ⟨v, q, c⟩ := r
  simp only [Nat.sub_zero] at h ht hf ⊢
  by_cases hc : c = 0
  rotate_left
  · rw [if_pos hc] at h; simp only at h; omega
  subst hc
  rw [if_neg (by simp)] at h ⊢
  by_cases hl : 1048576 < v
  · rw [if_pos hl] at h; simp at h
  rw [if_neg hl] at h ⊢
  by_cases he : bs.length < q + v + 4
  · rw [if_pos he] at h; simp at h
  rw [if_neg he] at h ⊢
  by_cases hs : (bs.drop (q + v)).take 4 = be4 (crcN (bs.take (q + v)))
  rotate_left
  · rw [if_neg hs] at h; simp at h
  rw [if_pos hs]
  simp only
  have h1 := hf rfl
  have hp : ((bs.drop q).take v).length = v := by simp; omega
  have h2 : bs.take (q + v) = enc v ++ (bs.drop q).take v := by rw [take_add, h1]
  have hfr : bs.take (q + v + 4) = frame ((bs.drop q).take v) := by
    rw [take_add, hs, frame, hp, ← h2]
  refine ⟨hfr, by omega, by omega, ?_⟩
  rw [← hfr]; simp; omega

/-- Beside an error nothing else is told. -/
theorem opF_bad {bs : List Int} (h : (opF bs).2.2 ≠ 0) : (opF bs).1 = [] ∧ (opF bs).2.1 = 0 := by
  unfold opF at h ⊢
  generalize tkF M63 true 0 0 bs = r at *
  obtain ⟨v, q, c⟩ := r
  simp only at h ⊢
  split
  · exact ⟨rfl, rfl⟩
  · rw [if_neg ‹_›] at h
    split
    · exact ⟨rfl, rfl⟩
    · rw [if_neg ‹_›] at h
      split
      · exact ⟨rfl, rfl⟩
      · rw [if_neg ‹_›] at h
        split
        · rw [if_pos ‹_›] at h; simp at h
        · exact ⟨rfl, rfl⟩

theorem frame_min (bs : List Int) : 5 ≤ (frame bs).length := by
  rw [frame_length]
  have := enc_length_pos bs.length
  omega

end Go.Proofs.Ytgiepkiogjkjjaa
