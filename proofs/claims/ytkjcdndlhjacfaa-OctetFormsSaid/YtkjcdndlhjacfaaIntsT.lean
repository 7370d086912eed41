/-
  The document's own answers for layer 1: TakeInts.
-/
import Derived.Test.YtkjcdndlhjacfaaIntsR
namespace Go.Proofs.Ytkjcdndlhjacfaa
open Go.RowKit

theorem tkF_shift {most : Nat} (d : Nat) : ∀ (l : List Int) (f : Bool) (u i : Nat),
    tkF most f u (i + d) l = ((tkF most f u i l).1, if (tkF most f u i l).2.2 = 0 then (tkF most f u i l).2.1 + d else 0, (tkF most f u i l).2.2) := by
  intro l
  induction l with
  | nil => intro f u i; simp [tkF_nil]
  | cons b r ih =>
    intro f u i
    cases h : Bad most f u b with
    | true => rw [tkF_bad h, tkF_bad h]; simp
    | false =>
      by_cases h2 : b < 128
      · rw [tkF_end h h2, tkF_end h h2]; simp; omega
      · rw [tkF_more h h2, tkF_more h h2, show i + d + 1 = i + 1 + d by omega]; exact ih _ _ _

theorem Src.sub {w : World} {b off len cap at0 : Nat} {bs : List Int} (h : Src w (some ⟨b, off, none⟩) len cap bs) (hat : at0 ≤ len) :
    Src w (some ⟨b, off + at0, none⟩) (len - at0) (cap - at0) (bs.drop at0) := by
  refine ⟨?_, by have := h.size; simp; omega, by have := h.small; omega, ⟨by have := h.caps.1; omega, by have := h.caps.2; omega⟩, fun x hx => h.bytes x (List.mem_of_mem_drop hx)⟩
  rcases h.reads with h0 | ⟨b2, off2, ha, hc⟩
  · left; rw [h0]; simp
  · simp only [Option.some.injEq, Addr.mk.injEq, and_true] at ha
    obtain ⟨rfl, rfl⟩ := ha
    refine .inr ⟨b, off + at0, rfl, fun i hi => ?_⟩
    have h1 : at0 + i < bs.length := by simp at hi; omega
    rw [Nat.add_assoc, hc (at0 + i) h1]
    simp [List.getD]

theorem Src.subEnd {w : World} {a : Option Addr} {len cap : Nat} {bs : List Int} (_h : Src w a len cap bs) : Src w a 0 0 [] := ⟨.inl rfl, rfl, by omega, ⟨by omega, by omega⟩, by simp⟩

theorem one_new (w : World) (u : Value) : ∀ j x, [u][j]? = some x → (w.alloc (.cells #[u] 3)).cell? ((⟨w.heap.size, 0, none⟩ : Addr).add j) = some x := by
  intro j x hj
  match j, hj with
  | 0, hj => simp at hj; subst hj; simp [Addr.add]

set_option maxHeartbeats 1600000 in
set_option maxRecDepth 20000 in
theorem rtakeInts_any (w : World) (a : Option Addr) (len cap : Nat) (bs : List Int) (h : Src w a len cap bs) :
    Calls Try.prog 28 #[.slice a len cap] w fun e w' =>
      ∃ v n, e = .returned (.tuple #[v, .int .i64 ((liF 0 bs).2.1 : Nat), .int .i64 (liF 0 bs).2.2]) ∧ w'.ownsRow w.heap.size 3 1 v n ((liF 0 bs).1.map (Value.int .i64)) ∧ Below w.heap.size w w' := by
  have HV := Lib.hid (rtakeUint_any w a len cap bs h)
  have H := Lib.hid h
  have hsm := h.small
  have hcap := h.caps.1
  clear h
  obtain ⟨i0, hi, hz0, hz1, hz2⟩ := info_parts infoI64
  obtain ⟨T, hT⟩ : ∃ T, T = liF 0 bs := ⟨_, rfl⟩
  rw [← hT]
  unfold liF szF at hT
  simp only [List.drop_zero] at hT
  have ht := tkF_told (most := M63) bs true 0 0
  generalize tkF M63 true 0 0 bs = r at *
  obtain ⟨v, q, c⟩ := r
  simp only at hT ht HV
  have HT := Lib.hid hT
  clear hT
  rcases ht with ⟨rfl, h1, h2⟩ | ⟨hc, rfl, rfl⟩
  · have hq : q ≤ len := by have := H.out.size; omega
    clear h2
    by_cases hm : 4096 < v
    · have HT2 : Hid (T = ([], 0, 2)) := by
        have e := HT.out
        rw [if_pos hm] at e
        simpa [Hid] using e
      clear HT
      have hm' : (4096 : Int) < v := by omega
      go_enter Try.func28, Try.ntmps28
      go_wp2_with fail
      refine HV.out.mono ?_
      rintro e w1 ⟨rfl, rfl⟩
      go_wp2_with fail
      go_ret3
      rw [HT2.out]
      exact ⟨_, 0, rfl, World.ownsRow_nil _ _ _ _, Below.refl _ _⟩
    · have hm' : ¬ (4096 : Int) < v := by omega
      have HT2 : Hid (T = onF [] (lsF bs v q)) := by
        have e := HT.out
        rw [if_neg hm] at e
        simp only at e
        rw [if_neg (by simp)] at e
        rw [onF_nil bs v q (by have := H.out.size; omega)]
        exact e
      clear HT
      go_enter Try.func28, Try.ntmps28
      go_wp2_with fail
      refine HV.out.mono ?_
      rintro e w1 ⟨rfl, rfl⟩
      go_wp2_with fail
      go_loopw [6, 8, 9] (fun sa so si wr => ∃ (k p : Nat) (vs : List Int), k ≤ v ∧ sa = .int .i64 (p : Int) ∧ si = .int .i64 (k : Int) ∧ q ≤ p ∧ p ≤ len ∧ Hid (vs.length = k) ∧
          Hid (wr.ownsRow w.heap.size 3 1 so k (vs.map (Value.int .i64))) ∧ Hid (Below w.heap.size w wr) ∧ Hid (T = onF vs (lsF bs (v - k) p)))
        (fun _ _ si _ => v - (intOf si).toNat)
      case atStart => exact ⟨0, q, [], Nat.zero_le _, rfl, rfl, Nat.le_refl _, hq, rfl, World.ownsRow_nil _ _ _ _, Below.refl _ _, HT2⟩
      case round =>
        obtain ⟨k, p, vs, hk, rfl, rfl, hqp, hp, hvs, hor, hbr, htk⟩ := hrel
        by_cases hlt : k < v
        · obtain ⟨b, off, rfl⟩ : ∃ b off, a = some ⟨b, off, none⟩ := by
            rcases H.out.reads with h | ⟨b, off, h, _⟩
            · have := H.out.size; subst h; simp at this; omega
            · exact ⟨b, off, h⟩
          have hpc : p ≤ cap := by omega
          have hnk : v - k = v - (k + 1) + 1 := by omega
          have htold := tkF_told (most := M64) (bs.drop p) true 0 p
          have hsh := tkF_shift (most := M64) p (bs.drop p) true 0 0
          rw [Nat.zero_add] at hsh
          have hstep : Hid (((tkF M64 true 0 p (bs.drop p)).2.2 ≠ 0 → T = ([], 0, (tkF M64 true 0 p (bs.drop p)).2.2)) ∧ ((tkF M64 true 0 p (bs.drop p)).2.2 = 0 →
              T = onF (vs ++ [unf (tkF M64 true 0 p (bs.drop p)).1]) (lsF bs (v - (k + 1)) (tkF M64 true 0 p (bs.drop p)).2.1))) := by
            have e := htk.out
            rw [hnk] at e
            exact ⟨fun h => e.trans (onF_bad h), fun h => e.trans (onF_good h)⟩
          clear htk hnk
          have HS1 := Lib.hid (rtakeInt_any wr (some ⟨b, off + p, none⟩) (len - p) (cap - p) (bs.drop p) ((H.out.below hbr.out).sub hp))
          have HS2 : Hid (cap = p → Calls Try.prog 19 #[.slice (some ⟨b, off, none⟩) 0 0] wr fun e w' =>
              e = .returned (.tuple #[.int .i64 (unf (tkF M64 true 0 0 (bs.drop p)).1), .int .i64 ((tkF M64 true 0 0 (bs.drop p)).2.1 : Nat), .int .i64 (tkF M64 true 0 0 (bs.drop p)).2.2]) ∧ wr = w') := by
            intro e
            have e2 : bs.drop p = [] := List.drop_eq_nil_of_le (by have := H.out.size; omega)
            rw [e2]
            exact rtakeInt_any wr _ 0 0 [] (H.out.below hbr.out).subEnd
          rw [hsh] at htold hstep
          clear hsh
          generalize tkF M64 true 0 0 (bs.drop p) = r at *
          obtain ⟨rv, rq, rc⟩ := r
          simp only at htold hstep HS1 HS2
          by_cases hrc : rc = 0
          · subst hrc
            simp only [if_true] at htold hstep
            have HT3 := Lib.hid (hstep.out.2 trivial)
            have hrq : rq + p ≤ len := by
              rcases htold with ⟨_, _, h5⟩ | ⟨h5, _⟩
              · have := H.out.size; simp at h5; omega
              · omega
            have HL : Hid ((vs ++ [unf rv]).length = k + 1) := by unfold Hid; simp [hvs.out]
            rw [Nat.add_comm rq p] at HT3
            clear htold hstep
            have hn0 : ((0 : Int) == 0) = true := rfl
            by_cases hcq : cap = p
            · subst hcq
              go_wp2_with fail
              refine (HS2.out trivial).mono ?_
              rintro e w3 ⟨rfl, rfl⟩
              go_wp2_with (at_builtin; refine wpList_append_own _ rfl _ _ 38 rfl w.heap.size 3 i0 (.int .i64 0) 1 8 Try.underlying38 hi hz0 hz1 hz2 rfl (by decide) _ _ _ rfl (hor.out.alloc _) ⟨wr.heap.size, 0, none⟩ 1 1 [.int .i64 (unf rv)] rfl rfl (one_new _ _) (by intro x hx; simp at hx; subst hx; rfl) (by unfold maxLen; omega) (by omega) (by have := hbr.out.size; simp; omega) ?_)
              intro v4 w4 own4 gr4 _
              have HO4 : Hid (w4.ownsRow w.heap.size 3 1 v4 (k + 1) ((vs ++ [unf rv]).map (Value.int .i64))) := by
                unfold Hid
                simpa using own4
              have HB4 := Lib.hid ((hbr.out.alloc hbr.out.size _).grown gr4 (by have := hbr.out.size; simp; omega) (fun k h => (hor.out.lt k h).1))
              clear own4 gr4
              go_wp2_with fail
              go_roundw
              case rel => exact ⟨k + 1, cap + rq, vs ++ [unf rv], by omega, by go_num, by go_num, by omega, by omega, HL, HO4, HB4, HT3⟩
              case measure => simp [intOf]; omega
            · go_wp2_with fail
              refine HS1.out.mono ?_
              rintro e w3 ⟨rfl, rfl⟩
              go_wp2_with (at_builtin; refine wpList_append_own _ rfl _ _ 38 rfl w.heap.size 3 i0 (.int .i64 0) 1 8 Try.underlying38 hi hz0 hz1 hz2 rfl (by decide) _ _ _ rfl (hor.out.alloc _) ⟨wr.heap.size, 0, none⟩ 1 1 [.int .i64 (unf rv)] rfl rfl (one_new _ _) (by intro x hx; simp at hx; subst hx; rfl) (by unfold maxLen; omega) (by omega) (by have := hbr.out.size; simp; omega) ?_)
              intro v4 w4 own4 gr4 _
              have HO4 : Hid (w4.ownsRow w.heap.size 3 1 v4 (k + 1) ((vs ++ [unf rv]).map (Value.int .i64))) := by
                unfold Hid
                simpa using own4
              have HB4 := Lib.hid ((hbr.out.alloc hbr.out.size _).grown gr4 (by have := hbr.out.size; simp; omega) (fun k h => (hor.out.lt k h).1))
              clear own4 gr4
              go_wp2_with fail
              go_roundw
              case rel => exact ⟨k + 1, p + rq, vs ++ [unf rv], by omega, by go_num, by go_num, by omega, by omega, HL, HO4, HB4, HT3⟩
              case measure => simp [intOf]; omega
          · simp only [if_neg hrc] at htold hstep
            have HT3 := Lib.hid (hstep.out.1 hrc)
            have hn0 : (rc == 0) = false := by rw [beq_eq_false_iff_ne]; exact hrc
            clear htold hstep
            by_cases hcq : cap = p
            · subst hcq
              go_wp2_with fail
              refine (HS2.out trivial).mono ?_
              rintro e w3 ⟨rfl, rfl⟩
              go_wp2_with fail
              go_ret3
              rw [HT3.out]
              exact ⟨_, 0, rfl, World.ownsRow_nil _ _ _ _, hbr.out⟩
            · go_wp2_with fail
              refine HS1.out.mono ?_
              rintro e w3 ⟨rfl, rfl⟩
              go_wp2_with fail
              go_ret3
              rw [HT3.out]
              exact ⟨_, 0, rfl, World.ownsRow_nil _ _ _ _, hbr.out⟩
        · obtain rfl : k = v := by omega
          have HT3 : Hid (T = (vs, p, 0)) := by
            have e := htk.out
            rw [Nat.sub_self] at e
            unfold Hid
            simpa [onF, lsF] using e
          clear htk
          go_wp2_with fail
          go_ret3
          rw [HT3.out]
          exact ⟨_, k, rfl, hor.out, hbr.out⟩
  · have HT2 : Hid (T = ([], 0, c)) := by
      have e := HT.out
      rw [show (if 4096 < 0 then ((0 : Nat), (0 : Nat), (2 : Int)) else (0, 0, c)) = (0, 0, c) from if_neg (by omega)] at e
      rw [if_pos (by show c ≠ 0; omega)] at e
      exact e
    have hc0 : (c == 0) = false := by rw [beq_eq_false_iff_ne]; omega
    clear HT hc
    go_enter Try.func28, Try.ntmps28
    go_wp2_with fail
    refine HV.out.mono ?_
    rintro e w1 ⟨rfl, rfl⟩
    go_wp2_with fail
    go_ret3
    rw [HT2.out]
    exact ⟨_, 0, rfl, World.ownsRow_nil _ _ _ _, Below.refl _ _⟩

end Go.Proofs.Ytkjcdndlhjacfaa
