/-
  Regions that draw their order, with a condition on the values that have come.
-/
import Derived.Test.YthgodhojhajahaaGreatDoorVaX
namespace Go.Proofs.YthgodhojhajahaaGreatDoor
open Go.RowKit

section
variable {P : Program} {ops : Array Oper} {Q : Exit → Act → World → Prop}

/-- As region_free, with a condition on the values that have come. -/
theorem region_free2 (base : Act) (id : Nat) (w0 : World) (hm : P.follows .mixedOrders = true) (last : Nat) (hlast : ops.size = last + 1) (hB : freeB ops = true) (hc : coverB ops last = true) (D : Nat → List Nat) (hD : depsB ops D = true) (hin : inB ops base.tmps.size = true)
    (F : Nat → Value → World → Prop) (G : (Nat → Option Value) → World → Prop) (Fin : (Nat → Option Value) → World → Prop)
    (hmono : ∀ j v w w', F j v w → Below w.heap.size w w' → F j v w') (h0 : G (fun _ => none) w0.drew)
    (hstep : ∀ i o, i < last → ops[i]? = some o → ∀ (a : Act) (vals : Nat → Option Value) (w : World), G vals w → (∀ k, outB ops k = true → a.eval (.tmp k) = base.eval (.tmp k)) → (∀ j ∈ D i, F j (a.eval (.tmp (slotOf ops j))) w ∧ vals j = some (a.eval (.tmp (slotOf ops j)))) → vals i = none → (∀ j k, vals j ≠ none → k ∈ D j → j < ops.size → vals k ≠ none) → (∀ j v, vals j = some v → F j v w) →
      o.wp P a w (fun a' w' => ∃ v, a' = a.put o.dst v ∧ F i v w' ∧ G (updV vals i v) w' ∧ Below w.heap.size w w') Q)
    (hfin : ∀ o, ops[last]? = some o → ∀ (a : Act) (vals : Nat → Option Value) (w : World), G vals w → (∀ k, outB ops k = true → a.eval (.tmp k) = base.eval (.tmp k)) → (∀ j ∈ D last, F j (a.eval (.tmp (slotOf ops j))) w ∧ vals j = some (a.eval (.tmp (slotOf ops j)))) → (∀ j, j < last → vals j ≠ none) → (∀ j v, vals j = some v → F j v w) →
      o.wp P a w (fun a' w' => ∃ v, a' = a.put o.dst v ∧ ∀ vals' : Nat → Option Value, (∀ j, j < last → vals' j = vals j) → Fin vals' w') Q)
    (hdone : ∀ vals w, Fin vals w → (∀ i, i < last + 1 → (vals i).isSome = true) → Q .normal (puts ops vals (List.range (last + 1)) base) w) :
    (Code.region id ops true).wp P Q base w0 := by
  have hout : ∀ (vals : Nat → Option Value) (k : Nat), outB ops k = true → (puts ops vals (List.range ops.size) base).eval (.tmp k) = base.eval (.tmp k) := fun vals k hk => by
    show (puts ops vals (List.range ops.size) base).tmps.getD k undef = base.tmps.getD k undef
    rw [Array.getD_eq_getD_getElem?, Array.getD_eq_getD_getElem?, puts_other vals k _ _ (fun j _ o ho e => by
      unfold outB at hk
      have := (Array.all_eq_true_iff_forall_mem.1 hk) o (Array.mem_of_getElem? ho)
      rw [e] at this
      simp at this)]
  have hget : ∀ (vals : Nat → Option Value) (i : Nat) (o : Oper), ops[i]? = some o → (∀ e ∈ o.after, Region.binds .any e = true → (vals e.on).isSome = true) → ∀ j ∈ D i, j < i ∧ vals j = some ((puts ops vals (List.range ops.size) base).eval (.tmp (slotOf ops j))) := fun vals i o ho hdep j hj => by
    have hlt := (Array.getElem?_eq_some_iff.1 ho).1
    unfold depsB at hD
    have h1 := List.all_eq_true.1 hD i (List.mem_range.2 hlt)
    rw [ho] at h1
    have h2 := List.all_eq_true.1 h1 j hj
    simp only [Bool.and_eq_true, decide_eq_true_eq] at h2
    obtain ⟨⟨h3, h4⟩, h5⟩ := h2
    rw [← Array.any_toList] at h4
    obtain ⟨e, he0, h6⟩ := List.any_eq_true.1 h4
    have he : e ∈ o.after := Array.mem_toList_iff.1 he0
    rw [Bool.and_eq_true, beq_iff_eq] at h6
    have h7 := hdep e he h6.2
    rw [h6.1] at h7
    obtain ⟨v, hv⟩ := Option.isSome_iff_exists.1 h7
    refine ⟨h3, ?_⟩
    cases hp : ops[j]? with
    | none => rw [hp] at h5; cases h5
    | some p =>
      rw [hp] at h5
      obtain ⟨d, hd⟩ := Option.isSome_iff_exists.1 h5
      have hs : slotOf ops j = d := by unfold slotOf; rw [hp]; show (p.dst).getD 0 = d; rw [hd]; rfl
      have hdi : d < base.tmps.size := by
        unfold inB at hin
        have := (Array.all_eq_true_iff_forall_mem.1 hin) p (Array.mem_of_getElem? hp)
        rw [hd] at this
        simpa using this
      rw [hs, hv]
      show some v = some ((puts ops vals (List.range ops.size) base).tmps.getD d undef)
      rw [Array.getD_eq_getD_getElem?, puts_at hp hd hv (List.range ops.size) base List.nodup_range (List.mem_range.2 (by omega)) hdi (fun k hk hne q hq => freeB_dst hB hp hq hne)]
      rfl
  have hclD : ∀ (vals : Nat → Option Value), (∀ j p, vals j ≠ none → ops[j]? = some p → ∀ e ∈ p.after, Region.binds .any e = true → (vals e.on).isSome = true) → ∀ j k, vals j ≠ none → k ∈ D j → j < ops.size → vals k ≠ none := fun vals hc j k hj hk hlt => by
    have ho := Array.getElem?_eq_getElem hlt
    have h := (hget vals j _ ho (fun e he hb => hc j _ hj ho e he hb) k hk).2
    rw [h]
    simp
  refine wp_region_any hm ?_
  have hb0 : base = puts ops (fun _ => none) (List.range ops.size) base := by
    have : ∀ (L : List Nat) (a : Act), puts ops (fun _ => none) L a = a := fun L => by
      induction L with
      | nil => intro a; rfl
      | cons j L ih => intro a; exact ih a
    rw [this]
  have main := wpAny_free (P := P) (Q := Q) base hB
    (fun vals w => (vals last = none → G vals w ∧ ∀ j v, vals j = some v → F j v w) ∧ (vals last ≠ none → Fin vals w ∧ ∀ j, j < last + 1 → (vals j).isSome = true) ∧ (∀ j p, vals j ≠ none → ops[j]? = some p → ∀ e ∈ p.after, Region.binds .any e = true → (vals e.on).isSome = true))
    (fun vals w i o hI ho hv hdep => ?_) (fun vals w hI hall => ?_) ops.size (Array.replicate ops.size false) (fun _ => none) w0.drew (List.range ops.size) (by simp) (fun i hi => ?_) (by simp) (fun i hi _ => List.mem_range.2 hi) ⟨fun _ => ⟨h0, fun j v h => by cases h⟩, fun h => absurd rfl h, fun j p h => absurd rfl h⟩
  · rw [← hb0] at main
    exact main
  · have hlt := (Array.getElem?_eq_some_iff.1 ho).1
    have hln : vals last = none := by
      cases hl : vals last with
      | none => rfl
      | some v =>
        have := (hI.2.1 (by rw [hl]; simp)).2 i (by omega)
        rw [hv] at this
        cases this
    obtain ⟨hG, hF⟩ := hI.1 hln
    have hg2 := hget vals i o ho hdep
    have hcl : ∀ v, ∀ j p, updV vals i v j ≠ none → ops[j]? = some p → ∀ e ∈ p.after, Region.binds .any e = true → (updV vals i v e.on).isSome = true := fun v j p hj hp e he hb => by
      by_cases c : e.on = i
      · rw [c, updV_same]; rfl
      · rw [updV_ne vals v c]
        by_cases d : j = i
        · subst d
          rw [ho] at hp
          injection hp with hp
          subst hp
          exact hdep e he hb
        · rw [updV_ne vals v d] at hj
          exact hI.2.2 j p hj hp e he hb
    by_cases c : i = last
    · subst c
      have hcov : ∀ j, j < i → (vals j).isSome = true := cover_all hc (p := fun j => (vals j).isSome = true) (fun k q hk hq hkk e he hb => by
        rcases hkk with rfl | hkk
        · rw [ho] at hq
          injection hq with hq
          subst hq
          exact hdep e he hb
        · exact hI.2.2 k q (fun hn => by rw [hn] at hkk; cases hkk) hq e he hb)
      refine Oper.wp_mono (fun a' w' hh => ?_) (hfin o ho _ vals w hG (hout vals) (fun j hj => ⟨hF j _ (hg2 j hj).2, (hg2 j hj).2⟩) (fun j hj hn => by have := hcov j hj; rw [hn] at this; cases this) hF)
      obtain ⟨v, rfl, hf⟩ := hh
      refine ⟨v, rfl, fun h => ?_, fun _ => ⟨hf _ (fun j hj => updV_ne vals v (by omega)), fun j hj => ?_⟩, hcl v⟩
      · rw [updV_same] at h; cases h
      · by_cases d : j = i
        · rw [d, updV_same]; rfl
        · rw [updV_ne vals v d]
          exact hcov j (by omega)
    · refine Oper.wp_mono (fun a' w' hh => ?_) (hstep i o (by omega) ho _ vals w hG (hout vals) (fun j hj => ⟨hF j _ (hg2 j hj).2, (hg2 j hj).2⟩) hv (hclD vals hI.2.2) hF)
      obtain ⟨v, rfl, hf, hG', hb⟩ := hh
      have hl' : updV vals i v last = none := by rw [updV_ne vals v (fun e => c e.symm)]; exact hln
      refine ⟨v, rfl, fun _ => ⟨hG', fun j u hu => ?_⟩, fun h => absurd hl' h, hcl v⟩
      by_cases d : j = i
      · subst d
        rw [updV_same] at hu
        injection hu with hu
        rw [← hu]
        exact hf
      · rw [updV_ne vals v d] at hu
        exact hmono j u w w' (hF j u hu) hb
  · have hls : vals last ≠ none := fun h => by
      have := hall last (by omega)
      rw [h] at this
      cases this
    obtain ⟨h1, h2⟩ := hI.2.1 hls
    rw [hlast]
    exact hdone vals w h1 h2
  · rw [Array.getD_eq_getD_getElem?, Array.getElem?_replicate, if_pos hi]
    rfl
end

end Go.Proofs.YthgodhojhajahaaGreatDoor
