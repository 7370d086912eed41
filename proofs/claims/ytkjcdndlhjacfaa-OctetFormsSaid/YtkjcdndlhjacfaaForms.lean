/-
  The law OctetForms: its walk.
-/
import Derived.Test.YtkjcdndlhjacfaaHeld
import Derived.Deep.DeepCutAuto
import Derived.Deep.RegionHeld3
namespace Go.Proofs.Ytkjcdndlhjacfaa
open Go.RowKit

theorem sb_of_str (xs : List Int) (h : ∀ x ∈ xs, 0 ≤ x ∧ x < 256) : sb (strOfNums xs) = xs := by
  unfold sb
  rw [strOfNums_data, List.map_map]
  conv => rhs; rw [← List.map_id xs]
  apply List.map_congr_left
  intro x hx
  have := h x hx
  simp only [Function.comp, id, UInt8.toNat_ofNat']
  omega

set_option maxHeartbeats 1600000 in
set_option maxRecDepth 20000 in
theorem forms_any (w : World) (a : Option Addr) (len cap : Nat) (bs : List Int) (h : Src w a len cap bs) :
    Calls Try.prog 8 #[.slice a len cap] w fun e w' => e = .returned (.bool true) ∧ Below w.heap.size w w' := by
  have H := Lib.hid h
  clear h
  go_enter Try.func8, Try.ntmps8
  go_wp2_with fail
  refine (uint_pos 128 w (by decide)).mono ?_
  rintro e w1 ⟨g1, c1, rfl, own1, b1⟩
  have HO1 := Lib.hid own1
  have HB1 := Lib.hid b1
  clear own1 b1
  go_wp2_with fail
  refine (takeUint_any w1 a len cap bs (H.out.below HB1.out)).mono ?_
  rintro e w2 ⟨rfl, b2⟩
  have s1 := ownsRow_string (ownsRow_below HO1.out b2 (fun k h => (HO1.out.lt k h).2))
  have HB2 := Lib.hid (HB1.out.trans (b2.mono HB1.out.size))
  clear b2 HO1 HB1
  have he : strOfNums (enc 128) = { data := #[129, 0] } := rfl
  rw [he] at s1
  generalize hr : tkF M63 true 0 0 bs = r at *
  have HR := Lib.hid hr
  clear hr he
  go_upto_if 35 with fail
  go_cut [] (fun wx => Hid (Below w.heap.size w wx))
  case first =>
    clear s1
    by_cases h0 : r.2.2 = 0
    · have h0b : (r.2.2 == 0) = true := by simp [h0]
      have H0 := Lib.hid h0
      clear h0
      have HF : Hid (r.1 < 2 ^ 63 ∧ 1 ≤ r.2.1 ∧ r.2.1 ≤ len ∧ bs.take r.2.1 = enc r.1) := by
        have hx := H.out.bytes
        have f1 := take_form (most := M63) (i := 0) hx (by rw [HR.out]; exact H0.out)
        have f2 := tkF_told (most := M63) bs true 0 0
        have f3 := tkF_le (most := M63) bs true 0 0
        rw [HR.out] at f1 f2 f3
        have e : M63 = 9223372036854775807 := rfl
        have f4 := H.out.size
        have f5 := H0.out
        rcases f2 with ⟨_, f6, f7⟩ | ⟨f6, _⟩
        · exact ⟨by omega, by omega, by omega, by simpa using f1⟩
        · omega
      go_wp2_with fail
      refine (uint_pos r.1 w2 HF.out.1).mono ?_
      rintro e w3 ⟨g3, c3, rfl, own3, b3⟩
      have s3 := fun n => ownsRow_string (w := w3.drewN n) own3
      have hk1 : decide ((r.2.1 : Int) < 1) = false := decide_eq_false (by have := HF.out.2.1; omega)
      have hk2 : decide (len < r.2.1) = false := decide_eq_false (by have := HF.out.2.2.1; omega)
      have hk3 : r.2.1 ≤ len := HF.out.2.2.1
      have hk4 : r.2.1 ≤ cap := by have := H.out.caps.1; omega
      have HB3 := Lib.hid (HB2.out.trans (b3.mono HB2.out.size))
      have s4 := fun n c' => (H.out.below (below_drawn HB3.out n)).front r.2.1 c' HF.out.2.2.1
      have e4 : bs.take r.2.1 = enc r.1 := HF.out.2.2.2
      rw [e4] at s4
      have s5 := str_self (strOfNums (enc r.1))
      clear own3 b3 e4
      go_wp2_with fail
      go_quiet (fail)
      go_wp2_with fail
      go_meet
      exact below_drawn HB3.out _
    · have h0b : (r.2.2 == 0) = false := by rw [beq_eq_false_iff_ne]; exact h0
      clear h0
      go_wp2_with fail
      go_meet
      exact HB2.out
  case rest =>
    have HBc := hcut
    clear hcut HB2 HR s1
    go_wp2_with fail
    refine (takeInt_any wc a len cap bs (H.out.below HBc.out)).mono ?_
    rintro e w3 ⟨rfl, b3⟩
    have HB3 := Lib.hid (HBc.out.trans (b3.mono HBc.out.size))
    clear b3 HBc
    generalize hr : tkF M64 true 0 0 bs = q at *
    have HR := Lib.hid hr
    clear hr
    go_upto_region 10 with fail
    go_cut [89] (fun s wx => s = .bool false ∧ Hid (Below w.heap.size w wx))
    case first =>
      by_cases h0 : q.2.2 = 0
      · have h0b : (q.2.2 == 0) = true := by simp [h0]
        have H0 := Lib.hid h0
        clear h0
        have HF : Hid (-9223372036854775808 ≤ unf q.1 ∧ unf q.1 ≤ 9223372036854775807 ∧ 1 ≤ q.2.1 ∧ q.2.1 ≤ len ∧ bs.take q.2.1 = enc (fo (unf q.1))) := by
          have hx := H.out.bytes
          have f1 := take_form (most := M64) (i := 0) hx (by rw [HR.out]; exact H0.out)
          have f2 := tkF_told (most := M64) bs true 0 0
          have f3 := tkF_le (most := M64) bs true 0 0
          rw [HR.out] at f1 f2 f3
          have f4 := H.out.size
          have f5 := H0.out
          have f6 := unf_range q.1 f3
          rw [fo_unf]
          rcases f2 with ⟨_, f8, f7⟩ | ⟨f8, _⟩
          · exact ⟨f6.1, f6.2, by omega, by omega, by simpa using f1⟩
          · omega
        have hk1 : decide ((q.2.1 : Int) < 1) = false := decide_eq_false (by have := HF.out.2.2.1; omega)
        have hk2 : decide (len < q.2.1) = false := decide_eq_false (by have := HF.out.2.2.2.1; omega)
        have hk3 : q.2.1 ≤ len := HF.out.2.2.2.1
        have hk4 : q.2.1 ≤ cap := by have := H.out.caps.1; omega
        have e4 : bs.take q.2.1 = enc (fo (unf q.1)) := HF.out.2.2.2.2
        have SOf : Hid (∀ W, Below w.heap.size w W → (∀ c', (convert 22 9 (.slice a q.2.1 c')).run Try.prog W = .ok (.string (strOfNums (enc (fo (unf q.1))))) W) ∧ Hid (Below w.heap.size w W)) := by
          intro W hW
          refine ⟨fun c' => ?_, hW⟩
          rw [← e4]
          exact (H.out.below hW).front q.2.1 c' HF.out.2.2.2.1
        have s5 := str_self (strOfNums (enc (fo (unf q.1))))
        clear e4
        refine wp_region_held_drew (S := fun W => (∀ c', (convert 22 9 (.slice a q.2.1 c')).run Try.prog W = .ok (.string (strOfNums (enc (fo (unf q.1))))) W) ∧ Hid (Below w.heap.size w W)) (by kernel_rfl) ?_ (fun hHeld => ?_)
        · exact SOf.out _ HB3.out.drew
        refine wpAnyH_take (i := 0) (v := ?_) (by simp only [List.getElem?_toArray, List.getElem?_cons_zero]; rfl) (by kernel_rfl) (by kernel_rfl) (by kernel_rfl) (by exact fun _ _ _ h => h) (Or.inl ⟨by rfl, ?_⟩) (by assumption) ?_
        rotate_left
        · intro W hSw
          obtain ⟨hS1, hS2⟩ := hSw
          go_simp
          first | done | with_reducible rfl
        rotate_left
        simp only [Act.put, List.setIfInBounds_toArray, List.set_cons_zero, List.set_cons_succ]
        refine wpAnyH_take (i := 1) (v := ?_) (by simp only [List.getElem?_toArray, List.getElem?_cons_zero, List.getElem?_cons_succ]; rfl) (by kernel_rfl) (by kernel_rfl) (by kernel_rfl) (by exact fun _ _ _ h => h) (Or.inl ⟨by rfl, ?_⟩) (by assumption) ?_
        rotate_left
        · intro W hSw
          obtain ⟨hS1, hS2⟩ := hSw
          go_simp
          first | done | with_reducible rfl
        rotate_left
        simp only [Act.put, List.setIfInBounds_toArray, List.set_cons_zero, List.set_cons_succ]
        refine wpAnyH_take (i := 2) (v := ?_) (by simp only [List.getElem?_toArray, List.getElem?_cons_zero, List.getElem?_cons_succ]; rfl) (by kernel_rfl) (by kernel_rfl) (by kernel_rfl) (by exact fun _ _ _ h => h) (Or.inl ⟨by rfl, ?_⟩) (by assumption) ?_
        rotate_left
        · intro W hSw
          obtain ⟨hS1, hS2⟩ := hSw
          go_simp
          first | done | with_reducible rfl
        rotate_left
        simp only [Act.put, List.setIfInBounds_toArray, List.set_cons_zero, List.set_cons_succ]
        refine wpAnyH_take (i := 3) (v := ?_) (by simp only [List.getElem?_toArray, List.getElem?_cons_zero, List.getElem?_cons_succ]; rfl) (by kernel_rfl) (by kernel_rfl) (by kernel_rfl) (by exact fun _ _ _ h => h) (Or.inl ⟨by rfl, ?_⟩) (by assumption) ?_
        rotate_left
        · intro W hSw
          obtain ⟨hS1, hS2⟩ := hSw
          go_simp
          first | done | with_reducible rfl
        rotate_left
        simp only [Act.put, List.setIfInBounds_toArray, List.set_cons_zero, List.set_cons_succ]
        refine wpAnyH_take (i := 4) (v := ?_) (by simp only [List.getElem?_toArray, List.getElem?_cons_zero, List.getElem?_cons_succ]; rfl) (by kernel_rfl) (by kernel_rfl) (by kernel_rfl) (by exact fun _ _ _ h => h) (Or.inl ⟨by rfl, ?_⟩) (by assumption) ?_
        rotate_left
        · intro W hSw
          obtain ⟨hS1, hS2⟩ := hSw
          go_simp
          first | done | with_reducible rfl
        rotate_left
        simp only [Act.put, List.setIfInBounds_toArray, List.set_cons_zero, List.set_cons_succ]
        refine wpAnyH_take (i := 5) (v := ?_) (by simp only [List.getElem?_toArray, List.getElem?_cons_zero, List.getElem?_cons_succ]; rfl) (by kernel_rfl) (by kernel_rfl) (by kernel_rfl) (by exact fun _ _ _ h => h) (Or.inl ⟨by rfl, ?_⟩) (by assumption) ?_
        rotate_left
        · intro W hSw
          obtain ⟨hS1, hS2⟩ := hSw
          go_simp
          first | done | with_reducible rfl
        rotate_left
        simp only [Act.put, List.setIfInBounds_toArray, List.set_cons_zero, List.set_cons_succ]
        refine wpAnyH_take (i := 6) (v := ?_) (by simp only [List.getElem?_toArray, List.getElem?_cons_zero, List.getElem?_cons_succ]; rfl) (by kernel_rfl) (by kernel_rfl) (by kernel_rfl) (by exact fun _ _ _ h => h) (Or.inl ⟨by rfl, ?_⟩) (by assumption) ?_
        rotate_left
        · intro W hSw
          obtain ⟨hS1, hS2⟩ := hSw
          go_simp
          first | done | with_reducible rfl
        rotate_left
        simp only [Act.put, List.setIfInBounds_toArray, List.set_cons_zero, List.set_cons_succ]
        refine wpAnyH_take (i := 7) (v := ?_) (by simp only [List.getElem?_toArray, List.getElem?_cons_zero, List.getElem?_cons_succ]; rfl) (by kernel_rfl) (by kernel_rfl) (by kernel_rfl) (by exact fun _ _ _ h => h) (Or.inl ⟨by rfl, ?_⟩) (by assumption) ?_
        rotate_left
        · intro W hSw
          obtain ⟨hS1, hS2⟩ := hSw
          go_simp
          first | done | with_reducible rfl
        rotate_left
        simp only [Act.put, List.setIfInBounds_toArray, List.set_cons_zero, List.set_cons_succ]
        refine wpAnyH_take (i := 8) (v := ?_) (by simp only [List.getElem?_toArray, List.getElem?_cons_zero, List.getElem?_cons_succ]; rfl) (by kernel_rfl) (by kernel_rfl) (by kernel_rfl) (by exact fun _ _ _ h => h) (Or.inl ⟨by rfl, ?_⟩) (by assumption) ?_
        rotate_left
        · intro W hSw
          obtain ⟨hS1, hS2⟩ := hSw
          go_simp
          first | done | with_reducible rfl
        rotate_left
        simp only [Act.put, List.setIfInBounds_toArray, List.set_cons_zero, List.set_cons_succ]
        refine wpAnyH_take (i := 9) (v := ?_) (by simp only [List.getElem?_toArray, List.getElem?_cons_zero, List.getElem?_cons_succ]; rfl) (by kernel_rfl) (by kernel_rfl) (by kernel_rfl) (by exact fun _ _ _ h => h) (Or.inl ⟨by rfl, ?_⟩) (by assumption) ?_
        rotate_left
        · intro W hSw
          obtain ⟨hS1, hS2⟩ := hSw
          go_simp
          first | done | with_reducible rfl
        rotate_left
        simp only [Act.put, List.setIfInBounds_toArray, List.set_cons_zero, List.set_cons_succ]
        refine wpAnyH_take (i := 10) (v := ?_) (by simp only [List.getElem?_toArray, List.getElem?_cons_zero, List.getElem?_cons_succ]; rfl) (by kernel_rfl) (by kernel_rfl) (by kernel_rfl) (by exact fun _ _ _ h => h) (Or.inl ⟨by rfl, ?_⟩) (by assumption) ?_
        rotate_left
        · intro W hSw
          obtain ⟨hS1, hS2⟩ := hSw
          go_simp
          first | done | with_reducible rfl
        rotate_left
        simp only [Act.put, List.setIfInBounds_toArray, List.set_cons_zero, List.set_cons_succ]
        refine wpAnyH_take (i := 11) (v := ?_) (by simp only [List.getElem?_toArray, List.getElem?_cons_zero, List.getElem?_cons_succ]; rfl) (by kernel_rfl) (by kernel_rfl) (by kernel_rfl) (by exact fun _ _ _ h => h) (Or.inl ⟨by rfl, ?_⟩) (by assumption) ?_
        rotate_left
        · intro W hSw
          obtain ⟨hS1, hS2⟩ := hSw
          go_simp
          first | done | with_reducible rfl
        rotate_left
        simp only [Act.put, List.setIfInBounds_toArray, List.set_cons_zero, List.set_cons_succ]
        refine wpAnyH_take (i := 12) (v := ?_) (by simp only [List.getElem?_toArray, List.getElem?_cons_zero, List.getElem?_cons_succ]; rfl) (by kernel_rfl) (by kernel_rfl) (by kernel_rfl) (by exact fun _ _ _ h => h) (Or.inl ⟨by rfl, ?_⟩) (by assumption) ?_
        rotate_left
        · intro W hSw
          obtain ⟨hS1, hS2⟩ := hSw
          go_simp
          first | done | with_reducible rfl
        rotate_left
        simp only [Act.put, List.setIfInBounds_toArray, List.set_cons_zero, List.set_cons_succ]
        refine wpAnyH_take (i := 15) (v := ?_) (by simp only [List.getElem?_toArray, List.getElem?_cons_zero, List.getElem?_cons_succ]; rfl) (by kernel_rfl) (by kernel_rfl) (by kernel_rfl) (by exact fun _ _ _ h => h) (Or.inl ⟨by rfl, ?_⟩) (by assumption) ?_
        rotate_left
        · intro W hSw
          obtain ⟨hS1, hS2⟩ := hSw
          go_simp
          first | done | with_reducible rfl
        rotate_left
        simp only [Act.put, List.setIfInBounds_toArray, List.set_cons_zero, List.set_cons_succ]
        refine wpAnyH_take (i := 16) (v := ?_) (by simp only [List.getElem?_toArray, List.getElem?_cons_zero, List.getElem?_cons_succ]; rfl) (by kernel_rfl) (by kernel_rfl) (by kernel_rfl) (by exact fun _ _ _ h => h) (Or.inl ⟨by rfl, ?_⟩) (by assumption) ?_
        rotate_left
        · intro W hSw
          obtain ⟨hS1, hS2⟩ := hSw
          go_simp
          first | done | with_reducible rfl
        rotate_left
        simp only [Act.put, List.setIfInBounds_toArray, List.set_cons_zero, List.set_cons_succ]
        refine wpAnyH_take (i := 17) (v := ?_) (by simp only [List.getElem?_toArray, List.getElem?_cons_zero, List.getElem?_cons_succ]; rfl) (by kernel_rfl) (by kernel_rfl) (by kernel_rfl) (by exact fun _ _ _ h => h) (Or.inl ⟨by rfl, ?_⟩) (by assumption) ?_
        rotate_left
        · intro W hSw
          obtain ⟨hS1, hS2⟩ := hSw
          go_simp
          first | done | with_reducible rfl
        rotate_left
        simp only [Act.put, List.setIfInBounds_toArray, List.set_cons_zero, List.set_cons_succ]
        refine wpAnyH_take (i := 18) (v := ?_) (by simp only [List.getElem?_toArray, List.getElem?_cons_zero, List.getElem?_cons_succ]; rfl) (by kernel_rfl) (by kernel_rfl) (by kernel_rfl) (by exact fun _ _ _ h => h) (Or.inl ⟨by rfl, ?_⟩) (by assumption) ?_
        rotate_left
        · intro W hSw
          obtain ⟨hS1, hS2⟩ := hSw
          go_simp
          first | done | with_reducible rfl
        rotate_left
        simp only [Act.put, List.setIfInBounds_toArray, List.set_cons_zero, List.set_cons_succ]
        refine wpAnyH_ready (rs := [13]) (by kernel_rfl) (by simp) ?_
        refine AllReadyH.cons (o := _) rfl (fun K hK => ?_) AllReadyH.nil
        go_simp
        refine (int_any (unf q.1) _ HF.out.1 HF.out.2.1).mono ?_
        rintro e w4 ⟨_, rfl, ⟨g4, c4, rfl, ho4⟩, hb4⟩
        have hb4' : Below w.heap.size w w4 := below_drewd HB3.out hb4 HB3.out.size
        have SO4 : Hid (∀ W, Below w4.heap.size w4 W → (convert 22 9 (.slice (some ⟨g4, 0, none⟩) (enc (fo (unf q.1))).length c4)).run Try.prog W = .ok (.string (strOfNums (enc (fo (unf q.1))))) W) := by
          intro W hW
          exact ownsRow_string (ownsRow_below ho4 hW (fun k h => (ho4.lt k h).2))
        refine hK.out _ w4 (SOf.out _ hb4') (fun _ => ?_)
        refine held_strong (S2 := fun W => (convert 22 9 (.slice (some ⟨g4, 0, none⟩) (enc (fo (unf q.1))).length c4)).run Try.prog W = .ok (.string (strOfNums (enc (fo (unf q.1))))) W ∧ (∀ c', (convert 22 9 (.slice a q.2.1 c')).run Try.prog W = .ok (.string (strOfNums (enc (fo (unf q.1))))) W) ∧ Hid (Below w.heap.size w W)) (fun _ h => h.2) _ _ _ _ ?_
        have hH4 := And.intro (SO4.out _ (Below.refl _ w4)) (SOf.out _ hb4')
        refine wpAnyH_take (i := 14) (v := ?_) (by simp only [List.getElem?_toArray, List.getElem?_cons_zero, List.getElem?_cons_succ]; rfl) (by kernel_rfl) (by kernel_rfl) (by kernel_rfl) (by exact fun _ _ _ h => h) (Or.inl ⟨by rfl, ?_⟩) (by assumption) ?_
        rotate_left
        · intro W hSw
          obtain ⟨hS1, hS2, hS3⟩ := hSw
          go_simp
          first | done | with_reducible rfl
        rotate_left
        simp only [Act.put, List.setIfInBounds_toArray, List.set_cons_zero, List.set_cons_succ]
        refine wpAnyH_take (i := 19) (v := ?_) (by simp only [List.getElem?_toArray, List.getElem?_cons_zero, List.getElem?_cons_succ]; rfl) (by kernel_rfl) (by kernel_rfl) (by kernel_rfl) (by exact fun _ _ _ h => h) (Or.inl ⟨by rfl, ?_⟩) (by assumption) ?_
        rotate_left
        · intro W hSw
          obtain ⟨hS1, hS2, hS3⟩ := hSw
          go_simp
          first | done | with_reducible rfl
        rotate_left
        simp only [Act.put, List.setIfInBounds_toArray, List.set_cons_zero, List.set_cons_succ]
        refine wpAnyH_take (i := 20) (v := ?_) (by simp only [List.getElem?_toArray, List.getElem?_cons_zero, List.getElem?_cons_succ]; rfl) (by kernel_rfl) (by kernel_rfl) (by kernel_rfl) (by exact fun _ _ _ h => h) (Or.inl ⟨by rfl, ?_⟩) (by assumption) ?_
        rotate_left
        · intro W hSw
          obtain ⟨hS1, hS2, hS3⟩ := hSw
          go_simp
          first | done | with_reducible rfl
        rotate_left
        simp only [Act.put, List.setIfInBounds_toArray, List.set_cons_zero, List.set_cons_succ]
        refine wpAnyH_take (i := 21) (v := ?_) (by simp only [List.getElem?_toArray, List.getElem?_cons_zero, List.getElem?_cons_succ]; rfl) (by kernel_rfl) (by kernel_rfl) (by kernel_rfl) (by exact fun _ _ _ h => h) (Or.inl ⟨by rfl, ?_⟩) (by assumption) ?_
        rotate_left
        · intro W hSw
          obtain ⟨hS1, hS2, hS3⟩ := hSw
          go_simp
          first | done | with_reducible rfl
        rotate_left
        simp only [Act.put, List.setIfInBounds_toArray, List.set_cons_zero, List.set_cons_succ]
        refine wpAnyH_done (by kernel_rfl) ?_ _
        go_simp
        go_wp2_with fail
        go_meet
        exact ⟨rfl, hb4'⟩
      · have h0b : (q.2.2 == 0) = false := by rw [beq_eq_false_iff_ne]; exact h0
        clear h0
        go_quiet (fail)
        go_wp2_with fail
        go_meet
        exact ⟨rfl, below_drawn HB3.out _⟩
    case rest =>
      obtain ⟨rfl, HBc⟩ := hcut
      clear HB3 HR
      go_wp2_with fail
      refine (takeText_any wc a len cap bs (H.out.below HBc.out)).mono ?_
      rintro e w3 ⟨rfl, b3⟩
      have HB3 := Lib.hid (HBc.out.trans (b3.mono HBc.out.size))
      clear b3 HBc
      generalize hr : txF 0 bs = t at *
      have HR := Lib.hid hr
      clear hr
      go_upto_if 97 with fail
      go_cut [] (fun wx => Hid (Below w.heap.size w wx))
      case first =>
        by_cases h0 : t.2.2 = 0
        · have h0b : (t.2.2 == 0) = true := by simp [h0]
          have H0 := Lib.hid h0
          clear h0
          have HF : Hid (t.2.1 ≤ len ∧ t.1.length ≤ 65535 ∧ bs.take t.2.1 = enc t.1.length ++ t.1 ∧ sb (strOfNums t.1) = t.1) := by
            have hx := H.out.bytes
            have f1 := txF_form hx (by rw [HR.out]; exact H0.out)
            rw [HR.out] at f1
            have f4 := H.out.size
            refine ⟨by omega, f1.2.1, f1.1, sb_of_str _ (fun x hm => ?_)⟩
            have : x ∈ bs.take t.2.1 := by rw [f1.1]; simp [hm]
            exact hx x (List.mem_of_mem_take this)
          have HT := Lib.hid (text_short (strOfNums t.1) w3 (by rw [strOfNums_size]; exact HF.out.2.1))
          have hk2 : decide (len < t.2.1) = false := decide_eq_false (by have := HF.out.1; omega)
          have hk3 : t.2.1 ≤ len := HF.out.1
          have hk4 : t.2.1 ≤ cap := by have := H.out.caps.1; omega
          obtain ⟨T, hT⟩ : ∃ T, T = enc (strOfNums t.1).size ++ sb (strOfNums t.1) := ⟨_, rfl⟩
          have e4 : Hid (bs.take t.2.1 = T) := by
            show _ = _
            rw [hT, HF.out.2.2.1, strOfNums_size, HF.out.2.2.2]
          rw [← hT] at HT
          clear hT
          go_wp2_with fail
          refine HT.out.mono ?_
          rintro e w4 ⟨_, rfl, ⟨g4, c4, rfl, own4⟩, b4⟩
          have s3 := fun n => ownsRow_string (w := w4.drewN n) own4
          have HB4 := Lib.hid (HB3.out.trans (b4.mono HB3.out.size))
          have s4 := fun n c' => (H.out.below (below_drawn HB4.out n)).front t.2.1 c' HF.out.1
          rw [e4.out] at s4
          have s5 := str_self (strOfNums T)
          clear own4 b4 HT
          go_wp2_with fail
          go_quiet (fail)
          go_wp2_with fail
          go_meet
          exact below_drawn HB4.out _
        · have h0b : (t.2.2 == 0) = false := by rw [beq_eq_false_iff_ne]; exact h0
          clear h0
          go_wp2_with fail
          go_meet
          exact HB3.out
      case rest =>
        have HBd := hcut
        clear hcut HB3 HR
        go_wp2_with fail
        refine (takeInts_any wc a len cap bs (H.out.below HBd.out)).mono ?_
        rintro e w3 ⟨v, rfl, hl3, b3⟩
        have hbad := liF_bad bs
        have hform := Lib.hid (fun h => liF_form H.out.bytes h)
        obtain ⟨ao, la, ca, rfl, hrd, hlen⟩ := hl3.reads hbad
        have HRD := Lib.hid hrd
        have HLEN := Lib.hid hlen
        have HB3 := Lib.hid (HBd.out.trans (b3.mono HBd.out.size))
        clear b3 HBd hl3 hbad hrd hlen
        generalize hr : liF 0 bs = u at *
        clear hr
        by_cases h0 : u.2.2 = 0
        · have h0b : (u.2.2 == 0) = true := by simp [h0]
          have HF := Lib.hid (hform.out h0)
          clear h0 hform
          have HT := Lib.hid (ints_short ao la ca u.1 w3 (by rw [← HLEN.out]; exact HF.out.2.1) HLEN.out HRD.out HF.out.2.2.2)
          have hle : Hid (u.2.1 ≤ len) := by
            show _ ≤ _
            have := H.out.size
            have := HF.out.2.2.1
            omega
          have hk2 : decide (u.2.1 ≤ len) = true := decide_eq_true hle.out
          have hk3 : u.2.1 ≤ len := hle.out
          have hk4 : u.2.1 ≤ cap := by have := H.out.caps.1; omega
          obtain ⟨T, hT⟩ : ∃ T, T = enc la ++ encs u.1 := ⟨_, rfl⟩
          have e4 : Hid (bs.take u.2.1 = T) := by
            show _ = _
            rw [hT, HF.out.1, HLEN.out]
          rw [← hT] at HT
          clear hT
          go_wp2_with fail
          refine HT.out.mono ?_
          rintro e w4 ⟨_, rfl, ⟨g4, c4, rfl, own4⟩, b4⟩
          have s3 := fun n => ownsRow_string (w := w4.drewN n) own4
          have HB4 := Lib.hid (HB3.out.trans (b4.mono HB3.out.size))
          have s4 := fun n c' => (H.out.below (below_drawn HB4.out n)).front u.2.1 c' hle.out
          rw [e4.out] at s4
          have s5 := str_self (strOfNums T)
          clear own4 b4 HT
          go_wp2_with fail
          go_quiet (fail)
          go_wp2_with fail
          go_ret
          exact ⟨rfl, below_drawn HB4.out _⟩
        · have h0b : (u.2.2 == 0) = false := by rw [beq_eq_false_iff_ne]; exact h0
          clear h0 hform
          go_wp2_with fail
          go_ret
          exact ⟨rfl, HB3.out⟩

theorem forms_walk (a0 : Option Addr) (len0 cap0 : Nat) (z0 : List Int) (w : World) (w0 : IsRow .u8 w a0 len0 cap0 z0) (s0 : cap0 * 1 ≤ 140737488351232) :
    Calls Try.prog 8 #[.slice a0 len0 cap0] w fun e w' => e = .returned (.bool true) ∧ Below w.heap.size w w' :=
  forms_any w a0 len0 cap0 (z0.take len0) (src_of_row w0 s0)

end Go.Proofs.Ytkjcdndlhjacfaa
