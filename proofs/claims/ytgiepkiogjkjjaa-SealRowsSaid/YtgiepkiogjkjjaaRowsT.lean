/-
  Rows: the program's.
-/
import Derived.Test.YtgiepkiogjkjjaaRwP
namespace Go.Proofs.Ytgiepkiogjkjjaa
open Go.RowKit

theorem Grows.belowB {B G : Nat} {a b : World} (h : Grows B G a b) (hB : B ≤ G) : Below B a b := ⟨h.1, h.2.1, h.2.2.1, h.2.2.2.1, fun k hk => h.2.2.2.2 k (by omega) (by omega)⟩

/-- What Rows tells. -/
def RowsTold (w w' : World) (T : List (List Int) × Nat × Int) (e : Ending) : Prop :=
  ∃ rv vals, e = .returned (.tuple #[rv, .int .i64 (T.2.1 : Nat), .int .i64 T.2.2]) ∧ RowsOwn w' (w.heap.size + 1) rv vals T.1 ∧ Below w.heap.size w w'

theorem drop_ne {bs : List Int} {A : Nat} (h : A < bs.length) : bs.drop A ≠ [] := by
  intro e
  have := congrArg List.length e
  simp at this; omega

set_option maxHeartbeats 3200000 in
set_option maxRecDepth 20000 in
theorem srows_any (w : World) (a : Option Addr) (len cap : Nat) (bs : List Int) (h : Src w a len cap bs) (hl : len ≤ 1000000000) :
    Calls Try.prog 19 #[.slice a len cap] w fun e w' => RowsTold w w' (rw' bs) e := by
  have H := Lib.hid h
  have HSZ := Lib.hid h.size
  have hcp := h.caps.1
  have hz := zeroTab w
  obtain ⟨i0, hi, hz0, hz1, hz2⟩ := info_parts infoS
  obtain ⟨T, hT⟩ : ∃ T, T = rw' bs := ⟨_, rfl⟩
  rw [← hT]
  have HT := Lib.hid hT
  have HAH := Lib.hid (h.ahead (Nat.le_refl _))
  clear h hT
  obtain ⟨w0, hw0⟩ : ∃ w0, w0 = w.alloc (.cells zero256 44) := ⟨_, rfl⟩
  have HTB : Hid (TabAt w0 w.heap.size) := by rw [hw0]; exact TabAt.alloc w
  have HW0 : Hid (Below w.heap.size w w0) := by rw [hw0]; exact (Below.refl _ w).alloc (Nat.le_refl _) _
  have HZ0 : Hid (w0.heap.size = w.heap.size + 1) := by rw [hw0]; unfold Hid; simp
  have HWW := Lib.hid hw0
  clear hw0
  go_enter Try.func19, Try.ntmps19
  go_wp2_with fail
  rw [← HWW.out]
  clear hz
  go_loopw [5, 7] (fun rv av wr => ∃ (A : Nat) (vals : List Value) (L : List (List Int)), A ≤ len ∧ av = .int .i64 (A : Int) ∧ 5 * L.length ≤ A ∧ Hid (RowsOwn wr (w.heap.size + 1) rv vals L) ∧ Hid (TabAt wr w.heap.size) ∧ Hid (Below w.heap.size w wr) ∧ Hid (w.heap.size + 1 ≤ wr.heap.size) ∧ Hid (T = onR L A (rw' (bs.drop A))))
    (fun _ av _ => len - (intOf av).toNat)
  case atStart =>
    refine ⟨0, [], [], Nat.zero_le _, rfl, by simp, RowsOwn.nil _ _, HTB, HW0, ?_, ?_⟩
    · have := HZ0.out; unfold Hid; omega
    · have e := HT.out
      unfold Hid
      rw [List.drop_zero, ← e]
      simp [onR]
  case round =>
    obtain ⟨A, vals, L, hA, rfl, hL, hown, htab, hbel, hsz, htt⟩ := hrel
    by_cases hlt : A < len
    · obtain ⟨b, off, rfl⟩ : ∃ b off, a = some ⟨b, off, none⟩ := by
        rcases H.out.reads with h | ⟨b, off, ha, _⟩
        · have := HSZ.out; subst h; simp at this; omega
        · exact ⟨b, off, ha⟩
      have hne : Hid (bs.drop A ≠ []) := drop_ne (by rw [HSZ.out]; exact hlt)
      have hib : Hid (InB (bs.drop A)) := InB.drop H.out.bytes A
      have hsub : Hid (Src wr (some ⟨b, off + A, none⟩) (len - A) (cap - A) (bs.drop A)) := by
        have e := (H.out.below hbel.out).sub A (len - A) (by omega)
        rw [List.take_of_length_le (by rw [List.length_drop, HSZ.out]; exact Nat.le_refl _)] at e
        exact e
      have hapt : Hid (bs.drop A ≠ [] → ∀ b2 off2, (some ⟨b, off + A, none⟩ : Option Addr) = some ⟨b2, off2, none⟩ → b2 ≠ w.heap.size) := by
        intro _ b2 off2 h2
        simp only [Option.some.injEq, Addr.mk.injEq, and_true] at h2
        refine HAH.out (fun e => hne.out (by rw [e]; simp)) b2 off (by rw [h2.1])
      have HV := Lib.hid (topen_any wr w.heap.size _ (len - A) (cap - A) (bs.drop A) htab.out hsub.out hapt.out)
      have HSTEP : Hid (((opF (bs.drop A)).2.2 ≠ 0 → T = (L, A, (opF (bs.drop A)).2.2)) ∧ ((opF (bs.drop A)).2.2 = 0 →
          T = onR (L ++ [(opF (bs.drop A)).1]) (A + (opF (bs.drop A)).2.1) (rw' (bs.drop (A + (opF (bs.drop A)).2.1))) ∧ 5 ≤ (opF (bs.drop A)).2.1 ∧ (opF (bs.drop A)).2.1 ≤ len - A)) := by
        refine ⟨fun h => htt.out.trans (onR_bad hne.out h), fun h => ?_⟩
        have h5 := opF_step hib.out h
        rw [List.length_drop, HSZ.out] at h5
        refine ⟨htt.out.trans ?_, h5⟩
        rw [onR_good hib.out hne.out h, List.drop_drop]
      have hk1 : ¬ cap = A := by omega
      clear htt
      generalize opF (bs.drop A) = R at *
      obtain ⟨p, u, c⟩ := R
      simp only at HSTEP
      go_wp2_with fail
      refine HV.out.mono ?_
      rintro e w2 ⟨v, rfl, ho2, ht2, hg2⟩
      simp only at ho2 ⊢
      have HB2 := Lib.hid (hbel.out.trans (hg2.belowB (by have := hsz.out; omega)))
      have HO2 := Lib.hid ho2
      have HT2 := Lib.hid ht2
      have HR2 : Hid (RowsOwn w2 (w.heap.size + 1) u5 vals L) := hown.out.moved (fun k h1 h2 => hg2.2.2.2.2 k h2 (by omega))
      have HZ2 := Lib.hid hg2.2.2.2.1
      by_cases hc : c = 0
      · subst hc
        obtain ⟨HT3, h5, h6⟩ := HSTEP.out.2 rfl
        have HTT3 := Lib.hid HT3
        have HAP : Hid (∀ (i : Nat) (x : Value), vals[i]? = some x → ∀ k, x.ownBlock = some k → v.ownBlock ≠ some k) := by
          intro i x hx k hk e
          have h1 := (HO2.out.lt k e).1
          have hxl : ∃ ys, L[i]? = some ys := by
            have := (List.getElem?_eq_some_iff.1 hx).1
            exact ⟨_, List.getElem?_eq_getElem (by rw [← hown.out.len]; exact this)⟩
          obtain ⟨ys, hys⟩ := hxl
          have h2 := ((hown.out.own i x ys hx hys).lt k hk).2
          omega
        clear HT3 HSTEP ho2 ht2 hg2 hown
        obtain ⟨av, lv, cv, hv⟩ := own_slice HO2.out
        subst hv
        have hLb : L.length ≤ 1000000000 := by omega
        go_wp2_with (at_builtin; refine wpList_append_own _ rfl (.tmp 30) (.tmp 32) 30 rfl (w.heap.size + 1) 22 i0 (.slice none 0 0) 1 24 Try.underlying30 hi hz0 hz1 hz2 rfl (by decide) _ _ _ rfl (HR2.out.row.alloc _) ⟨w2.heap.size, 0, none⟩ 1 1 [.slice av lv cv] rfl rfl ?c1 ?c2 ?c3 ?c4 ?c5 ?_)
        case c1 =>
          intro i x hx
          match i, hx with
          | 0, hx => simp at hx; subst hx; simp [Addr.add]
        case c2 => intro x hx; simp at hx; subst hx; rfl
        case c3 => unfold maxLen; omega
        case c4 => omega
        case c5 => have := HZ2.out; have := hsz.out; simp; omega
        intro v6 w6 own6 gr6 _
        have HR2a : Hid (RowsOwn (w2.alloc (.cells #[.slice av lv cv] 22)) (w.heap.size + 1) u5 vals L) := HR2.out.moved (fun k _ h2 => Below.heap_alloc _ _ k h2)
        have HR6 : Hid (RowsOwn w6 (w.heap.size + 1) v6 (vals ++ [.slice av lv cv]) (L ++ [p])) :=
          HR2a.out.push ((ownsRow_mono HO2.out (by have := hsz.out; omega)).alloc _) HAP.out own6 gr6
        have hbo : ∀ k, u5.ownBlock = some k → w.heap.size ≤ k := fun k h => by have := (HR2.out.row.lt k h).1; omega
        have HB6 := Lib.hid ((HB2.out.alloc (by have := HZ2.out; have := hsz.out; omega) (.cells #[.slice av lv cv] 22)).grown gr6 (by have := HZ2.out; have := hsz.out; simp; omega) hbo)
        have HT6 : Hid (TabAt w6 w.heap.size) := by
          obtain ⟨cur, e1, e2⟩ := HT2.out
          refine ⟨cur, ?_, e2⟩
          have hlt2 : w.heap.size < w2.heap.size := by have := HZ2.out; have := hsz.out; omega
          rw [gr6.block w.heap.size (by simp; omega) (fun e => by have := (HR2.out.row.lt _ e.symm).1; omega), Below.heap_alloc _ _ _ hlt2]
          exact e1
        have HZ6 : Hid (w.heap.size + 1 ≤ w6.heap.size) := by have := gr6.size; have := HZ2.out; have := hsz.out; simp at *; unfold Hid; omega
        clear own6 gr6 hbo HR2 HR2a HB2 HO2 HT2 HAP htab hbel
        go_wp2_with fail
        go_roundw
        case rel => exact ⟨A + u, vals ++ [.slice av lv cv], L ++ [p], by omega, by go_num, by simp; omega, HR6, HT6, HB6, HZ6, HTT3⟩
        case measure => simp [intOf]; omega
      · have HT3 := Lib.hid (HSTEP.out.1 hc)
        have hcc : (c != 0) = true := by rw [bne_iff_ne]; exact hc
        clear HSTEP hc ho2 ht2 hg2 hown
        go_wp2_with fail
        go_ret3
        rw [HT3.out]
        exact ⟨_, vals, rfl, HR2.out, HB2.out⟩
    · obtain rfl : A = len := by omega
      have HTE : Hid (T = (L, A, 0)) := by
        have e := htt.out
        rw [List.drop_eq_nil_of_le (by rw [HSZ.out]; exact Nat.le_refl _), onR_nil] at e
        exact e
      clear htt
      go_wp2_with fail
      go_ret3
      rw [HTE.out]
      exact ⟨_, vals, rfl, hown.out, hbel.out⟩

end Go.Proofs.Ytgiepkiogjkjjaa
