/-
  Open: the program's.
-/
import Derived.Test.YtgiepkiogjkjjaaOpenA
import Derived.Deep.RegionHeld3
namespace Go.Proofs.Ytgiepkiogjkjjaa
open Go.RowKit

theorem Grows.drewN {B G : Nat} {a b : World} (h : Grows B G a b) (n : Nat) : Grows B G a (b.drewN n) := h
theorem Grows.alloc {B G : Nat} {a b : World} (h : Grows B G a b) (hG : G ≤ b.heap.size) (o : Obj) : Grows B G a (b.alloc o) :=
  h.trans ⟨rfl, rfl, rfl, by simp, fun k hk _ => Below.heap_alloc b o k (by omega)⟩
theorem Grows.of_below {B G : Nat} {a b : World} (h : Below G a b) (hs : a.heap.size ≤ b.heap.size) : Grows B G a b :=
  ⟨h.os, h.tape, h.output, hs, fun k hk _ => h.block k hk⟩

/-- One slice of bytes that is made known to the table's sum. -/
theorem parts_one (W : World) (B : Nat) (p : Piece) (R : Nat) (hR : R = W.heap.size) (hB : B < W.heap.size) (h : Src W p.a p.len p.cap p.bs) (hp : p.bs ≠ [] → ∀ b off, p.a = some ⟨b, off, none⟩ → b ≠ B) :
    PartsAt (W.alloc (.cells #[p.val] 22)) B (some ⟨R, 0, none⟩) [p] where
  cells := fun i q hq => by
    subst hR
    have hi : i = 0 := by
      have := (List.getElem?_eq_some_iff.1 hq).1
      simp at this; exact this
    subst hi
    simp only [List.getElem?_cons_zero, Option.some.injEq] at hq
    subst hq
    refine ⟨W.heap.size, 0, rfl, by omega, ?_⟩
    rw [cell_of_row _ W.heap.size _ _ _ _ (heap_alloc_new W _)]
    rfl
  srcs := fun q hq => by
    rw [List.mem_singleton] at hq
    subst hq
    exact ⟨h.alloc _, hp⟩

theorem flat_one (p : Piece) : flat [p] = p.bs := by simp [flat]

/-- What Open tells of a payload. -/
def Told (w w' : World) (B : Nat) (T : List Int × Nat × Int) (e : Ending) : Prop :=
  ∃ v, e = .returned (.tuple #[v, .int .i64 (T.2.1 : Nat), .int .i64 T.2.2]) ∧ w'.ownsRow w.heap.size 5 1 v T.1.length (T.1.map (Value.int .u8)) ∧ TabAt w' B ∧ Grows B w.heap.size w w'

set_option maxHeartbeats 3200000 in
set_option maxRecDepth 20000 in
theorem topen_any (w : World) (B : Nat) (a : Option Addr) (len cap : Nat) (bs : List Int) (hT : TabAt w B) (h : Src w a len cap bs) (hB : bs ≠ [] → ∀ b off, a = some ⟨b, off, none⟩ → b ≠ B) :
    Calls Try.prog 26 #[.pointer (some ⟨B, 0, none⟩), .slice a len cap] w fun e w' => Told w w' B (opF bs) e := by
  have HV := Lib.hid (takeUint_any w a len cap bs h)
  have htold := tkF_told (most := M63) bs true 0 0
  obtain ⟨T, hT0⟩ : ∃ T, T = opF bs := ⟨_, rfl⟩
  rw [← hT0]
  unfold opF at hT0
  generalize tkF M63 true 0 0 bs = r at *
  obtain ⟨v, q, c⟩ := r
  simp only at hT0 htold HV
  have HT0 := Lib.hid hT0
  have HSZ := Lib.hid h.size
  have hsm := h.small
  have hcp := h.caps.1
  have H := Lib.hid h
  have HT := Lib.hid hT
  have HBB := Lib.hid hB
  have HLT := Lib.hid hT.lt
  clear hT0 h hT hB
  by_cases hc : c = 0
  rotate_left
  · have HTe : Hid (T = ([], 0, c)) := by have e := HT0.out; rw [if_pos hc] at e; exact e
    have hcc : (c != 0) = true := by rw [bne_iff_ne]; exact hc
    clear HT0 htold hc
    go_enter Try.func26, Try.ntmps26
    go_wp2_with fail
    refine HV.out.mono ?_
    rintro e w1 ⟨rfl, hb1⟩
    have HB1 := Lib.hid hb1
    clear hb1
    go_wp2_with fail
    go_ret3
    rw [HTe.out]
    exact ⟨_, rfl, World.ownsRow_nil _ _ _ _, HT.out.below HB1.out HLT.out, Grows.of_below HB1.out HB1.out.size⟩
  subst hc
  have hq : 0 < q ∧ q ≤ len := by
    have := HSZ.out
    rcases htold with ⟨_, h1, h2⟩ | ⟨h1, _⟩
    · omega
    · omega
  obtain ⟨hq0, hql⟩ := hq
  clear htold
  by_cases hlong : 1048576 < v
  · have HTe : Hid (T = ([], 0, 2)) := by have e := HT0.out; rw [if_neg (by simp), if_pos hlong] at e; exact e
    have hlong' : (1048576 : Int) < v := by omega
    clear HT0
    go_enter Try.func26, Try.ntmps26
    go_wp2_with fail
    refine HV.out.mono ?_
    rintro e w1 ⟨rfl, hb1⟩
    have HB1 := Lib.hid hb1
    clear hb1
    go_wp2_with fail
    go_ret3
    rw [HTe.out]
    exact ⟨_, rfl, World.ownsRow_nil _ _ _ _, HT.out.below HB1.out HLT.out, Grows.of_below HB1.out HB1.out.size⟩
  have hlong' : ¬ (1048576 : Int) < v := by omega
  by_cases hend : len < q + v + 4
  · have HTe : Hid (T = ([], 0, 3)) := by have e := HT0.out; rw [if_neg (by simp), if_neg hlong, HSZ.out, if_pos hend] at e; exact e
    have hend' : (len : Int) < q + v + 4 := by omega
    clear HT0
    go_enter Try.func26, Try.ntmps26
    go_wp2_with fail
    refine HV.out.mono ?_
    rintro e w1 ⟨rfl, hb1⟩
    have HB1 := Lib.hid hb1
    clear hb1
    go_wp2_with fail
    go_ret3
    rw [HTe.out]
    exact ⟨_, rfl, World.ownsRow_nil _ _ _ _, HT.out.below HB1.out HLT.out, Grows.of_below HB1.out HB1.out.size⟩
  have hend' : ¬ (len : Int) < q + v + 4 := by omega
  obtain ⟨b, off, rfl⟩ : ∃ b off, a = some ⟨b, off, none⟩ := by
    rcases H.out.reads with h | ⟨b, off, ha, _⟩
    · have := HSZ.out; subst h; simp at this; omega
    · exact ⟨b, off, ha⟩
  go_enter Try.func26, Try.ntmps26
  go_wp2_with fail
  refine HV.out.mono ?_
  rintro e w1 ⟨rfl, hb1⟩
  have HB1 := Lib.hid hb1
  clear hb1
  go_wp2_with fail
  have k1 : (0 : Int) ≤ (q : Int) + v + 4 := by omega
  have k2 : (q : Int) + v + 4 ≤ cap := by omega
  have k3 : (0 : Int) ≤ (q : Int) + v := by omega
  have k4 : (q : Int) + v ≤ (q : Int) + v + 4 := by omega
  have k5 : ((q : Int) + v).toNat = q + v := by omega
  have k6 : ((q : Int) + v + 4).toNat = q + v + 4 := by omega
  have k7 : ¬ cap = q + v := by omega
  have k8 : q + v + 4 - (q + v) = 4 := by omega
  have k9 : (q : Int) + v ≤ cap := by omega
  refine wp_region_held_drew (S := fun _ => True) (by kernel_rfl) trivial (fun hHeld => ?_)
  refine wpAnyH_take (i := 0) (v := ?_) (by simp only [List.getElem?_toArray, List.getElem?_cons_zero]; rfl) (by kernel_rfl) (by kernel_rfl) (by kernel_rfl) (by exact fun _ _ _ h => h) (Or.inl ⟨by rfl, ?_⟩) (by assumption) ?_
  rotate_left
  · intro W hSw
    clear hSw
    go_simp
    first | done | with_reducible rfl
  rotate_left
  simp only [Act.put, List.setIfInBounds_toArray, List.set_cons_zero, List.set_cons_succ]
  refine wpAnyH_take (i := 1) (v := ?_) (by simp only [List.getElem?_toArray, List.getElem?_cons_zero, List.getElem?_cons_succ]; rfl) (by kernel_rfl) (by kernel_rfl) (by kernel_rfl) (by exact fun _ _ _ h => h) (Or.inl ⟨by rfl, ?_⟩) (by assumption) ?_
  rotate_left
  · intro W hSw
    clear hSw
    go_simp
    first | done | with_reducible rfl
  rotate_left
  simp only [Act.put, List.setIfInBounds_toArray, List.set_cons_zero, List.set_cons_succ]
  refine wpAnyH_take (i := 2) (v := ?_) (by simp only [List.getElem?_toArray, List.getElem?_cons_zero, List.getElem?_cons_succ]; rfl) (by kernel_rfl) (by kernel_rfl) (by kernel_rfl) (by exact fun _ _ _ h => h) (Or.inl ⟨by rfl, ?_⟩) (by assumption) ?_
  rotate_left
  · intro W hSw
    clear hSw
    go_simp
    first | done | with_reducible rfl
  rotate_left
  simp only [Act.put, List.setIfInBounds_toArray, List.set_cons_zero, List.set_cons_succ]
  refine wpAnyH_take (i := 3) (v := ?_) (by simp only [List.getElem?_toArray, List.getElem?_cons_zero, List.getElem?_cons_succ]; rfl) (by kernel_rfl) (by kernel_rfl) (by kernel_rfl) (by exact fun _ _ _ h => h) (Or.inl ⟨by rfl, ?_⟩) (by assumption) ?_
  rotate_left
  · intro W hSw
    clear hSw
    go_simp
    first | done | with_reducible rfl
  rotate_left
  simp only [Act.put, List.setIfInBounds_toArray, List.set_cons_zero, List.set_cons_succ]
  refine wpAnyH_take (i := 4) (v := ?_) (by simp only [List.getElem?_toArray, List.getElem?_cons_zero, List.getElem?_cons_succ]; rfl) (by kernel_rfl) (by kernel_rfl) (by kernel_rfl) (by exact fun _ _ _ h => h) (Or.inl ⟨by rfl, ?_⟩) (by assumption) ?_
  rotate_left
  · intro W hSw
    clear hSw
    go_simp
    first | done | with_reducible rfl
  rotate_left
  simp only [Act.put, List.setIfInBounds_toArray, List.set_cons_zero, List.set_cons_succ]
  refine wpAnyH_take (i := 5) (v := ?_) (by simp only [List.getElem?_toArray, List.getElem?_cons_zero, List.getElem?_cons_succ]; rfl) (by kernel_rfl) (by kernel_rfl) (by kernel_rfl) (by exact fun _ _ _ h => h) (Or.inl ⟨by rfl, ?_⟩) (by assumption) ?_
  rotate_left
  · intro W hSw
    clear hSw
    go_simp
    first | done | with_reducible rfl
  rotate_left
  simp only [Act.put, List.setIfInBounds_toArray, List.set_cons_zero, List.set_cons_succ]
  refine wpAnyH_take (i := 6) (v := ?_) (by simp only [List.getElem?_toArray, List.getElem?_cons_zero, List.getElem?_cons_succ]; rfl) (by kernel_rfl) (by kernel_rfl) (by kernel_rfl) (by exact fun _ _ _ h => h) (Or.inl ⟨by rfl, ?_⟩) (by assumption) ?_
  rotate_left
  · intro W hSw
    clear hSw
    go_simp
    first | done | with_reducible rfl
  rotate_left
  simp only [Act.put, List.setIfInBounds_toArray, List.set_cons_zero, List.set_cons_succ]
  refine wpAnyH_take (i := 7) (v := ?_) (by simp only [List.getElem?_toArray, List.getElem?_cons_zero, List.getElem?_cons_succ]; rfl) (by kernel_rfl) (by kernel_rfl) (by kernel_rfl) (by exact fun _ _ _ h => h) (Or.inl ⟨by rfl, ?_⟩) (by assumption) ?_
  rotate_left
  · intro W hSw
    clear hSw
    go_simp
    first | done | with_reducible rfl
  rotate_left
  simp only [Act.put, List.setIfInBounds_toArray, List.set_cons_zero, List.set_cons_succ]
  refine wpAnyH_ready (rs := [8]) (by kernel_rfl) (by simp) ?_
  refine AllReadyH.cons (o := _) rfl (fun K hK => ?_) AllReadyH.nil
  go_simp
  refine hK.out _ _ trivial (fun _ => ?_)
  refine wpAnyH_ready (rs := [9]) (by kernel_rfl) (by simp) ?_
  refine AllReadyH.cons (o := _) rfl (fun K hK => ?_) AllReadyH.nil
  go_simp
  refine (tsum_any _ B 1 1 _ [⟨some ⟨b, off, none⟩, q + v, cap, bs.take (q + v)⟩] ?_ (parts_one w1.drew B _ _ rfl ?_ ?_ ?_) rfl (by omega)).mono ?_
  · exact (HT.out.below HB1.out HLT.out).below ((Below.refl _ w1).drew.alloc (Nat.le_refl _) _) (show B < w1.heap.size by have := HB1.out.size; have := HLT.out; omega)
  · show B < w1.heap.size
    have := HB1.out.size; have := HLT.out; omega
  · have e := ((H.out.below HB1.out).below (Below.refl _ w1).drew).sub 0 (q + v) (by omega)
    simpa using e
  · intro hne b2 off2 h2
    refine HBB.out ?_ b2 off2 h2
    intro e; rw [e] at hne; simp at hne
  rintro e w2 ⟨rfl, ht2, ho2⟩
  rw [flat_one]
  simp only []
  have HT2 := Lib.hid ht2
  have HO2 := Lib.hid ho2
  clear ht2 ho2
  have hcl := crcN_lt (bs.take (q + v))
  obtain ⟨s, hs⟩ : ∃ s, s = crcN (bs.take (q + v)) := ⟨_, rfl⟩
  rw [← hs] at hcl ⊢
  have HS := Lib.hid hs
  clear hs
  refine hK.out _ _ trivial (fun _ => ?_)
  refine wpAnyH_ready (rs := [10]) (by kernel_rfl) (by simp) ?_
  refine AllReadyH.cons (o := _) rfl (fun K hK => ?_) AllReadyH.nil
  go_simp
  refine (tail_any s w2 hcl).mono ?_
  rintro e w3 ⟨rfl, rfl⟩
  refine hK.out _ _ trivial (fun _ => ?_)
  refine wpAnyH_ready (rs := [11]) (by kernel_rfl) (by simp) ?_
  refine AllReadyH.cons (o := _) rfl (fun K hK => ?_) AllReadyH.nil
  go_simp
  have hsrc2 : Hid (Src w2 (some ⟨b, off, none⟩) len cap bs) :=
    (((H.out.below HB1.out).below (Below.refl _ w1).drew).alloc _).only HO2.out HBB.out
  refine (equal_any _ _ _ 4 (cap - (q + v)) 4 4 ((bs.drop (q + v)).take 4) (be4 s) ((hsrc2.out.sub (q + v) 4 (by omega)).alloc _) (src_made w2 (be4 s) (0, 0) 4 rfl (by omega) (be4_range s))).mono ?_
  rintro e w3 ⟨rfl, rfl⟩
  obtain ⟨d, hd⟩ : ∃ d, d = decide ((bs.drop (q + v)).take 4 = be4 s) := ⟨_, rfl⟩
  rw [← hd]
  have HD := Lib.hid hd
  clear hd
  refine hK.out _ _ trivial (fun _ => ?_)
  refine wpAnyH_ready (rs := [12]) (by kernel_rfl) (by simp) ?_
  refine AllReadyH.cons (o := _) rfl (fun K hK => ?_) AllReadyH.nil
  go_simp
  refine hK.out _ _ trivial (fun _ => ?_)
  refine wpAnyH_done (by kernel_rfl) ?_ _
  go_simp
  have hz1 : w.heap.size ≤ w1.heap.size := HB1.out.size
  have hz2 : w1.heap.size + 1 = w2.heap.size := by have := HO2.out.2; simp at this; omega
  have HG2 : Hid (Grows B w.heap.size w w2) :=
    (((Grows.of_below (B := B) HB1.out HB1.out.size).drewN 1).alloc (show w.heap.size ≤ w1.heap.size from hz1) _).trans (HO2.out.grows (by simp; omega))
  have HG3 : Hid (Grows B w.heap.size w (w2.alloc (.cells ((be4 s).map (Value.int .u8)).toArray 5))) := HG2.out.alloc (by omega) _
  have HT3 : Hid (TabAt (w2.alloc (.cells ((be4 s).map (Value.int .u8)).toArray 5)) B) := HT2.out.below ((Below.refl _ w2).alloc (Nat.le_refl _) _) (by have := HLT.out; omega)
  have HS3 : Hid (Src (w2.alloc (.cells ((be4 s).map (Value.int .u8)).toArray 5)) (some ⟨b, off, none⟩) len cap bs) := hsrc2.out.alloc _
  obtain ⟨w3, hw3⟩ : ∃ w3 : World, w3 = w2.alloc (.cells ((be4 s).map (Value.int .u8)).toArray 5) := ⟨_, rfl⟩
  rw [← hw3] at HG3 HT3 HS3 ⊢
  have hz3 : w2.heap.size + 1 = w3.heap.size := by rw [hw3]; simp
  clear hw3 HG2 HT2 hsrc2 HO2 k1 k2 k3 k4 k5 k6 k7 k8 k9
  rw [HSZ.out, if_neg (by simp), if_neg hlong, if_neg hend, ← HS.out] at HT0
  cases d
  · have HTe : Hid (T = ([], 0, 5)) := by
      have e := HT0.out
      rw [if_neg (by have := HD.out; simpa using this.symm)] at e
      exact e
    clear HT0 HD
    go_wp2_with fail
    go_ret3
    rw [HTe.out]
    exact ⟨_, rfl, World.ownsRow_nil _ _ _ _, HT3.out, HG3.out⟩
  · have HTe : Hid (T = ((bs.drop q).take v, q + v + 4, 0)) := by
      have e := HT0.out
      rw [if_pos (by have := HD.out; simpa using this.symm)] at e
      exact e
    clear HT0 HD
    have k1 : ¬ cap = q := by omega
    go_wp2_with fail
    have e0 := HS3.out.sub q v (by omega)
    refine (clone_any w3 _ v (cap - q) _ (by simpa using e0) (by omega)).mono ?_
    rintro e w4 ⟨v4, rfl, hown, hb4⟩
    have HO4 := Lib.hid hown
    have HB4 := Lib.hid hb4
    clear hown hb4 e0
    go_wp2_with fail
    go_ret3
    rw [HTe.out]
    refine ⟨v4, ?_, ownsRow_mono HO4.out (by omega), HT3.out.below HB4.out (by have := HLT.out; omega), HG3.out.trans (Grows.of_below (HB4.out.mono (by omega)) HB4.out.size)⟩
    simp

end Go.Proofs.Ytgiepkiogjkjjaa
