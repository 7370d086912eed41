/-
  The document's own answer for layer 2: Rows.
-/
import Derived.Test.YtgiepkiogjkjjaaROp
import Derived.Test.YtgiepkiogjkjjaaAppR
namespace Go.Proofs.Ytgiepkiogjkjjaa
open Go.RowKit

/-- What the document's Rows tells. -/
def RRowsTold (w w' : World) (T : List (List Int) × Nat × Int) (e : Ending) : Prop :=
  ∃ rv vals, e = .returned (.tuple #[rv, .int .i64 (T.2.1 : Nat), .int .i64 T.2.2]) ∧ RowsOwn w' w.heap.size rv vals T.1 ∧ Below w.heap.size w w'

set_option maxHeartbeats 3200000 in
set_option maxRecDepth 20000 in
theorem rrows_any (w : World) (a : Option Addr) (len cap : Nat) (bs : List Int) (h : Src w a len cap bs) (hl : len ≤ 1000000000) :
    Calls Try.prog 20 #[.slice a len cap] w fun e w' => RRowsTold w w' (rw' bs) e := by
  have H := Lib.hid h
  have HSZ := Lib.hid h.size
  have hcp := h.caps.1
  obtain ⟨T, hT⟩ : ∃ T, T = rw' bs := ⟨_, rfl⟩
  rw [← hT]
  have HT := Lib.hid hT
  clear h hT
  go_enter Try.func20, Try.ntmps20
  go_wp2_with fail
  go_loopw [5, 6] (fun rv av wr => ∃ (A : Nat) (vals : List Value) (L : List (List Int)), A ≤ len ∧ av = .int .i64 (A : Int) ∧ 5 * L.length ≤ A ∧ Hid (RowsOwn wr w.heap.size rv vals L) ∧ Hid (Below w.heap.size w wr) ∧ Hid (T = onR L A (rw' (bs.drop A))))
    (fun _ av _ => len - (intOf av).toNat)
  case atStart =>
    refine ⟨0, [], [], Nat.zero_le _, rfl, by simp, RowsOwn.nil _ _, Below.refl _ _, ?_⟩
    have e := HT.out
    unfold Hid
    rw [List.drop_zero, ← e]
    simp [onR]
  case round =>
    obtain ⟨A, vals, L, hA, rfl, hL, hown, hbel, htt⟩ := hrel
    by_cases hlt : A < len
    · obtain ⟨b, off, rfl⟩ : ∃ b off, a = some ⟨b, off, none⟩ := by
        rcases H.out.reads with h | ⟨b, off, ha, _⟩
        · have := HSZ.out; subst h; simp at this; omega
        · exact ⟨b, off, ha⟩
      have hne : Hid (bs.drop A ≠ []) := drop_ne (by rw [HSZ.out]; exact hlt)
      have hib : Hid (InB (bs.drop A)) := InB.drop H.out.bytes A
      have hsub : Hid (Src wr (some ⟨b, off + A, none⟩) (len - A) (cap - A) (bs.drop A)) := by
        have e := (H.out.below hbel.out).sub A (len - A) (by omega)
        rw [List.take_of_length_le (by rw [List.length_drop, HSZ.out]; exact Nat.le_refl _)] at e
        exact e
      have HV := Lib.hid (ropen_any wr _ (len - A) (cap - A) (bs.drop A) hsub.out)
      have HSTEP : Hid (((opF (bs.drop A)).2.2 ≠ 0 → T = (L, A, (opF (bs.drop A)).2.2)) ∧ ((opF (bs.drop A)).2.2 = 0 →
          T = onR (L ++ [(opF (bs.drop A)).1]) (A + (opF (bs.drop A)).2.1) (rw' (bs.drop (A + (opF (bs.drop A)).2.1))) ∧ 5 ≤ (opF (bs.drop A)).2.1 ∧ (opF (bs.drop A)).2.1 ≤ len - A)) := by
        refine ⟨fun h => htt.out.trans (onR_bad hne.out h), fun h => ?_⟩
        have h5 := opF_step hib.out h
        rw [List.length_drop, HSZ.out] at h5
        refine ⟨htt.out.trans ?_, h5⟩
        rw [onR_good hib.out hne.out h, List.drop_drop]
      have hk1 : ¬ cap = A := by omega
      clear htt
      generalize opF (bs.drop A) = R at *
      obtain ⟨p, u, c⟩ := R
      simp only at HSTEP
      go_wp2_with fail
      refine HV.out.mono ?_
      rintro e w2 ⟨v, rfl, ho2, hb2⟩
      simp only at ho2 ⊢
      have HB2 := Lib.hid (hbel.out.trans (hb2.mono hbel.out.size))
      have HO2 := Lib.hid ho2
      have HR2 : Hid (RowsOwn w2 w.heap.size u5 vals L) := hown.out.moved (fun k _ h2 => hb2.block k h2)
      by_cases hc : c = 0
      · subst hc
        obtain ⟨HT3, h5, h6⟩ := HSTEP.out.2 rfl
        have HTT3 := Lib.hid HT3
        have HAP : Hid (∀ (i : Nat) (x : Value), vals[i]? = some x → ∀ k, x.ownBlock = some k → v.ownBlock ≠ some k) := by
          intro i x hx k hk e
          have h1 := (HO2.out.lt k e).1
          have hxl : ∃ ys, L[i]? = some ys := by
            have := (List.getElem?_eq_some_iff.1 hx).1
            exact ⟨_, List.getElem?_eq_getElem (by rw [← hown.out.len]; exact this)⟩
          obtain ⟨ys, hys⟩ := hxl
          have h2 := ((hown.out.own i x ys hx hys).lt k hk).2
          omega
        have hwz := hbel.out.size
        clear HT3 HSTEP ho2 hb2 hown
        obtain ⟨av, lv, cv, hv⟩ := own_slice HO2.out
        subst hv
        have hLb : L.length ≤ 1000000000 := by omega
        go_wp2_with (at_builtin; refine wpl_append_row rfl (.tmp 27) (.tmp 29) rfl w.heap.size _ _ _ rfl HR2.out.row av lv cv rfl hLb HB2.out.size ?_)
        intro v6 w6 own6 gr6 hb6
        have HR2a : Hid (RowsOwn (w2.alloc (.cells #[.slice av lv cv] 22)) w.heap.size u5 vals L) := HR2.out.moved (fun k _ h2 => Below.heap_alloc _ _ k h2)
        have HR6 : Hid (RowsOwn w6 w.heap.size v6 (vals ++ [.slice av lv cv]) (L ++ [p])) :=
          HR2a.out.push ((ownsRow_mono HO2.out hwz).alloc _) HAP.out own6 gr6
        have HB6 := Lib.hid (HB2.out.trans hb6)
        clear own6 gr6 hb6 HR2 HR2a HB2 HO2 HAP hbel
        go_wp2_with fail
        go_roundw
        case rel => exact ⟨A + u, vals ++ [.slice av lv cv], L ++ [p], by omega, by go_num, by simp; omega, HR6, HB6, HTT3⟩
        case measure => simp [intOf]; omega
      · have HT3 := Lib.hid (HSTEP.out.1 hc)
        have hcc : (c != 0) = true := by rw [bne_iff_ne]; exact hc
        clear HSTEP hc ho2 hb2 hown
        go_wp2_with fail
        go_ret3
        rw [HT3.out]
        exact ⟨_, vals, rfl, HR2.out, HB2.out⟩
    · obtain rfl : A = len := by omega
      have HTE : Hid (T = (L, A, 0)) := by
        have e := htt.out
        rw [List.drop_eq_nil_of_le (by rw [HSZ.out]; exact Nat.le_refl _), onR_nil] at e
        exact e
      clear htt
      go_wp2_with fail
      go_ret3
      rw [HTE.out]
      exact ⟨_, vals, rfl, hown.out, hbel.out⟩

end Go.Proofs.Ytgiepkiogjkjjaa
