/-
  The document's own answer for layer 2: Open.
-/
import Derived.Test.YtgiepkiogjkjjaaRCl
namespace Go.Proofs.Ytgiepkiogjkjjaa
open Go.RowKit

set_option maxHeartbeats 3200000 in
set_option maxRecDepth 20000 in
theorem ropen_any (w : World) (a : Option Addr) (len cap : Nat) (bs : List Int) (h : Src w a len cap bs) :
    Calls Try.prog 17 #[.slice a len cap] w fun e w' =>
      ∃ v, e = .returned (.tuple #[v, .int .i64 ((opF bs).2.1 : Nat), .int .i64 (opF bs).2.2]) ∧ w'.ownsRow w.heap.size 5 1 v (opF bs).1.length ((opF bs).1.map (Value.int .u8)) ∧ Below w.heap.size w w' := by
  have HV := Lib.hid (rtakeUint_any w a len cap bs h)
  have htold := tkF_told (most := M63) bs true 0 0
  obtain ⟨T, hT0⟩ : ∃ T, T = opF bs := ⟨_, rfl⟩
  rw [← hT0]
  unfold opF at hT0
  generalize tkF M63 true 0 0 bs = r at *
  obtain ⟨v, q, c⟩ := r
  simp only at hT0 htold HV
  have HT0 := Lib.hid hT0
  have HSZ := Lib.hid h.size
  have hsm := h.small
  have hcp := h.caps.1
  have H := Lib.hid h
  clear hT0 h
  by_cases hc : c = 0
  rotate_left
  · have HTe : Hid (T = ([], 0, c)) := by have e := HT0.out; rw [if_pos hc] at e; exact e
    have hcc : (c != 0) = true := by rw [bne_iff_ne]; exact hc
    clear HT0 htold hc
    go_enter Try.func17, Try.ntmps17
    go_wp2_with fail
    refine HV.out.mono ?_
    rintro e w1 ⟨rfl, rfl⟩
    go_wp2_with fail
    go_ret3
    rw [HTe.out]
    exact ⟨_, rfl, World.ownsRow_nil _ _ _ _, Below.refl _ _⟩
  subst hc
  have hq : 0 < q ∧ q ≤ len := by
    have := HSZ.out
    rcases htold with ⟨_, h1, h2⟩ | ⟨h1, _⟩
    · omega
    · omega
  obtain ⟨hq0, hql⟩ := hq
  clear htold
  by_cases hlong : 1048576 < v
  · have HTe : Hid (T = ([], 0, 2)) := by have e := HT0.out; rw [if_neg (by simp), if_pos hlong] at e; exact e
    have hlong' : (1048576 : Int) < v := by omega
    clear HT0
    go_enter Try.func17, Try.ntmps17
    go_wp2_with fail
    refine HV.out.mono ?_
    rintro e w1 ⟨rfl, rfl⟩
    go_wp2_with fail
    go_ret3
    rw [HTe.out]
    exact ⟨_, rfl, World.ownsRow_nil _ _ _ _, Below.refl _ _⟩
  have hlong' : ¬ (1048576 : Int) < v := by omega
  by_cases hend : len < q + v + 4
  · have HTe : Hid (T = ([], 0, 3)) := by have e := HT0.out; rw [if_neg (by simp), if_neg hlong, HSZ.out, if_pos hend] at e; exact e
    have hend' : (len : Int) < q + v + 4 := by omega
    clear HT0
    go_enter Try.func17, Try.ntmps17
    go_wp2_with fail
    refine HV.out.mono ?_
    rintro e w1 ⟨rfl, rfl⟩
    go_wp2_with fail
    go_ret3
    rw [HTe.out]
    exact ⟨_, rfl, World.ownsRow_nil _ _ _ _, Below.refl _ _⟩
  have hend' : ¬ (len : Int) < q + v + 4 := by omega
  obtain ⟨b, off, rfl, hcell⟩ : ∃ b off, a = some ⟨b, off, none⟩ ∧ ∀ i, i < bs.length → w.cell? ⟨b, off + i, none⟩ = some (.int .u8 (bs.getD i 0)) := by
    rcases H.out.reads with h | h
    · have := HSZ.out; subst h; simp at this; omega
    · exact h
  have hcl := crcN_lt (bs.take (q + v))
  rw [HSZ.out, if_neg (by simp), if_neg hlong, if_neg hend] at HT0
  have h4 := four_bytes bs (q + v) _ H.out.bytes (by rw [HSZ.out]; omega) hcl
  have HTC : Hid (((crcN (bs.take (q + v)) : Nat) : Int) = bs.getD (q + v) 0 * 16777216 + bs.getD (q + v + 1) 0 * 65536 + bs.getD (q + v + 2) 0 * 256 + bs.getD (q + v + 3) 0 → T = ((bs.drop q).take v, q + v + 4, 0)) := fun h => by
    have e := HT0.out
    rw [if_pos (Eq.mpr h4 h)] at e
    exact e
  have HTD : Hid (((crcN (bs.take (q + v)) : Nat) : Int) ≠ bs.getD (q + v) 0 * 16777216 + bs.getD (q + v + 1) 0 * 65536 + bs.getD (q + v + 2) 0 * 256 + bs.getD (q + v + 3) 0 → T = ([], 0, 5)) := fun h => by
    have e := HT0.out
    rw [if_neg (fun k => h (Eq.mp h4 k))] at e
    exact e
  clear h4 HT0
  have hc0 := hcell (q + v) (by rw [HSZ.out]; omega)
  have hc1 := hcell (q + v + 1) (by rw [HSZ.out]; omega)
  have hc2 := hcell (q + v + 2) (by rw [HSZ.out]; omega)
  have hc3 := hcell (q + v + 3) (by rw [HSZ.out]; omega)
  have hg : ∀ i, i < 4 → 0 ≤ bs.getD (q + v + i) 0 ∧ bs.getD (q + v + i) 0 < 256 := by
    intro i hi
    have h1 : q + v + i < bs.length := by rw [HSZ.out]; omega
    exact H.out.bytes _ (by simp [List.getD, List.getElem?_eq_getElem h1])
  obtain ⟨x0l, x0h⟩ := hg 0 (by omega)
  obtain ⟨x1l, x1h⟩ := hg 1 (by omega)
  obtain ⟨x2l, x2h⟩ := hg 2 (by omega)
  obtain ⟨x3l, x3h⟩ := hg 3 (by omega)
  simp only [Nat.add_zero] at x0l x0h
  generalize bs.getD (q + v) 0 = x0 at *
  generalize bs.getD (q + v + 1) 0 = x1 at *
  generalize bs.getD (q + v + 2) 0 = x2 at *
  generalize bs.getD (q + v + 3) 0 = x3 at *
  clear hcell hg
  have HSUB : Hid (Src w (some ⟨b, off, none⟩) (q + v) cap (bs.take (q + v))) := by
    have e := H.out.sub 0 (q + v) (by omega)
    unfold Hid
    simpa using e
  have HPL : Hid (Src w (some ⟨b, off + q, none⟩) v (cap - q) ((bs.drop q).take v)) := H.out.sub q v (by omega)
  have HRS : Hid (∀ n, Calls Try.prog 13 #[.slice (some ⟨b, off, none⟩) (q + v) cap] (w.drewN n) fun e w' => e = .returned (.int .i64 ((crcN (bs.take (q + v)) : Nat) : Int)) ∧ w.drewN n = w') :=
    fun n => rsum_any (w.drewN n) _ _ _ _ (HSUB.out.heap rfl)
  obtain ⟨s, hs⟩ : ∃ s, s = crcN (bs.take (q + v)) := ⟨_, rfl⟩
  rw [← hs] at HRS HTC HTD hcl
  clear hs
  have k1 : (q : Int) + v < len := by omega
  have k2 : (q : Int) + v + 1 < len := by omega
  have k3 : (q : Int) + v + 2 < len := by omega
  have k4 : (q : Int) + v + 3 < len := by omega
  have k5 : ((q : Int) + v).toNat = q + v := by omega
  have k6 : ((q : Int) + v + 1).toNat = q + v + 1 := by omega
  have k7 : ((q : Int) + v + 2).toNat = q + v + 2 := by omega
  have k8 : ((q : Int) + v + 3).toNat = q + v + 3 := by omega
  have k9 : (0 : Int) ≤ (q : Int) + v := by omega
  go_enter Try.func17, Try.ntmps17
  go_wp2_with fail
  refine HV.out.mono ?_
  rintro e w1 ⟨rfl, rfl⟩
  go_wp2_with fail
  go_quiet (fail)
  go_wp2_with fail
  refine (HRS.out _).mono ?_
  rintro e w2 ⟨rfl, rfl⟩
  clear hc0 hc1 hc2 hc3 k1 k2 k3 k4 k6 k7 k8 k9
  by_cases hsy : (s : Int) = x0 * 16777216 + x1 * 65536 + x2 * 256 + x3
  · have HTe := Lib.hid (HTC.out hsy)
    have hbn : ((s : Int) != x0 * 16777216 + x1 * 65536 + x2 * 256 + x3) = false := by rw [← hsy]; simp
    have k1 : ¬ cap = q := by omega
    have k2 : q + v - q = v := by omega
    clear hsy HTC HTD HRS HSUB
    obtain ⟨wd, hwd⟩ : ∃ wd : World, wd = w.drewN nq := ⟨_, rfl⟩
    rw [← hwd]
    have HPD : Hid (Src wd (some ⟨b, off + q, none⟩) v (cap - q) ((bs.drop q).take v)) := by rw [hwd]; exact HPL.out.heap rfl
    have HZD : Hid (wd.heap.size = w.heap.size) := by rw [hwd]; rfl
    have HBD : Hid (Below w.heap.size w wd) := by rw [hwd]; exact below_drawn (Below.refl _ _) _
    clear hwd HPL
    go_wp2_with (at_builtin; refine wpl_append_src rfl (.tmp 64) (.tmp 68) rfl wd.heap.size _ 0 [] rfl (ownsRow_empty wd) _ v (cap - q) _ (HPD.out.alloc _) (fun h => by cases h) rfl (by omega) (by simp) ?_)
    intro v5 w5 own5 gr5
    have HO5 : Hid (w5.ownsRow w.heap.size 5 1 v5 ((bs.drop q).take v).length (((bs.drop q).take v).map (Value.int .u8))) := by
      rw [HPD.out.size, ← HZD.out]
      simpa [Hid] using own5
    have HG5 := Lib.hid ((((Below.refl wd.heap.size wd).alloc (Nat.le_refl _) _).grown gr5 (by simp) (fun k h => ((ownsRow_empty wd).lt k h).1)))
    have HB5 := Lib.hid (HBD.out.trans (HG5.out.mono (by rw [HZD.out]; exact Nat.le_refl _)))
    clear own5 gr5 HG5
    go_wp2_with fail
    go_ret3
    rw [HTe.out]
    refine ⟨v5, ?_, HO5.out, HB5.out⟩
    simp
  · have HTe := Lib.hid (HTD.out hsy)
    have hbn : ((s : Int) != x0 * 16777216 + x1 * 65536 + x2 * 256 + x3) = true := by rw [bne_iff_ne]; exact hsy
    clear hsy HTC HTD HRS HSUB
    go_wp2_with fail
    go_ret3
    rw [HTe.out]
    exact ⟨_, rfl, World.ownsRow_nil _ _ _ _, below_drawn (Below.refl _ _) _⟩

end Go.Proofs.Ytgiepkiogjkjjaa
