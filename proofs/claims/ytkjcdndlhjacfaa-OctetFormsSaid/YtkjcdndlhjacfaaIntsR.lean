/-
  The document's own answers for layer 1: rows of numbers.
-/
import Derived.Test.YtkjcdndlhjacfaaRefX
import Derived.Test.YtkjcdndlhjacfaaBackW
namespace Go.Proofs.Ytkjcdndlhjacfaa
open Go.RowKit

theorem wpl_append_int {w : World} {ops : Array Oper} {rest : List Oper} {o : Oper} {a : Act} {Q : Exit → Act → World → Prop} (hgd : o.guard = none) (s x : Operand)
    (ho : o.op = .call { callee := .builtin .append, args := #[s, x], argTypes := #[38, 38] })
    (base : Nat) (v : Value) (n : Nat) (xs : List Int) (hs : a.eval s = v) (hown : w.ownsRow base 3 1 v n (xs.map (Value.int .i64)))
    (ao : Option Addr) (len cap : Nat) (ns : List Int) (hr : ReadsI w ao ns) (hlen : ns.length = len) (hnil : ao = none → cap = 0) (hx : a.eval x = .slice ao len cap) (hn : (n + len) * 8 ≤ 140737488355328) (hbase : base ≤ w.heap.size)
    (h : ∀ v' w', w'.ownsRow base 3 1 v' (n + len) ((xs ++ ns).map (Value.int .i64)) → w.grownBy w' v.ownBlock → (v ≠ .slice none 0 0 → v' ≠ .slice none 0 0) → wpList Try.prog ops Q rest (a.put o.dst v') w') : wpList Try.prog ops Q (o :: rest) a w := by
  obtain ⟨i0, hi, hz0, hz1, hz2⟩ := info_parts infoI64
  cases ao with
  | none =>
    obtain rfl : cap = 0 := hnil rfl
    have hb : ns = [] := by
      rcases hr with h0 | ⟨b, off, ha, _⟩
      · exact h0
      · simp at ha
    subst hb
    obtain rfl : len = 0 := by simpa using hlen.symm
    refine wpList_append_own_none hgd s x 38 ho base 3 i0 1 Try.underlying38 hi v n _ hs hown hx ?_
    exact h v w (by simpa using hown) ⟨rfl, rfl, rfl, Nat.le_refl _, fun _ _ _ => rfl⟩ (fun h => h)
  | some ad =>
    refine wpList_append_own w hgd s x 38 ho base 3 i0 (.int .i64 0) 1 8 Try.underlying38 hi hz0 hz1 hz2 rfl (by decide) v n _ hs hown ad len cap (ns.map (Value.int .i64)) hx (by simp [hlen]) ?_ ?_ (by unfold maxLen; omega) hn hbase ?_
    · intro j u hj
      have hj2 : j < ns.length := by
        have := (List.getElem?_eq_some_iff.1 hj).1
        simpa using this
      rcases hr with h0 | ⟨b, off, ha, hc⟩
      · subst h0; simp at hj2
      · simp only [Option.some.injEq] at ha
        subst ha
        rw [Addr.add_lit, hc j hj2]
        rw [List.getElem?_map, List.getElem?_eq_getElem hj2] at hj
        simp only [Option.map_some, Option.some.injEq] at hj
        rw [← hj]; simp [List.getD, List.getElem?_eq_getElem hj2]
    · intro u hu
      obtain ⟨y, _, rfl⟩ := List.mem_map.1 hu
      rfl
    · intro v' w' h1 h2 h3
      exact h v' w' (by simpa using h1) h2 (fun h4 h5 => h4 (h3.1 h5).1)

/-- An owned row of numbers, as a source. -/
theorem rowI_reads {w : World} {G n : Nat} {v : Value} {xs : List Int} (h : w.ownsRow G 3 1 v n (xs.map (Value.int .i64))) :
    ∃ ao cap, v = .slice ao n cap ∧ ReadsI w ao xs ∧ xs.length = n ∧ (ao = none → cap = 0) := by
  have hn : xs.length = n := by have := h.1; simpa using this
  rcases h.2 with ⟨rfl, rfl⟩ | ⟨g, cap, cur, rfl, _, _, h3, h4, _⟩
  · have : xs = [] := List.eq_nil_of_length_eq_zero hn
    subst this
    exact ⟨none, 0, rfl, .inl rfl, rfl, fun _ => rfl⟩
  · refine ⟨some ⟨g, 0, none⟩, cap, rfl, .inr ⟨g, 0, rfl, fun i hi => ?_⟩, hn, fun e => by cases e⟩
    have := h.cellAt i (by omega)
    rw [Nat.zero_add, this, List.getElem?_map, List.getElem?_eq_getElem hi]
    simp [List.getD, List.getElem?_eq_getElem hi]

set_option maxRecDepth 20000 in
theorem rints_long (a : Option Addr) (len cap : Nat) (w : World) (h : 4096 < len) :
    Calls Try.prog 27 #[.slice a len cap] w fun e w' => e = .returned (.tuple #[.slice none 0 0, .int .i64 2]) ∧ w = w' := by
  have h' : (4096 : Int) < len := by omega
  go_enter Try.func27, Try.ntmps27
  go_wp2_with fail
  go_ret2
  exact ⟨rfl, rfl⟩

set_option maxHeartbeats 800000 in
set_option maxRecDepth 20000 in
theorem rints_short (a : Option Addr) (len cap : Nat) (ns : List Int) (w : World) (h : len ≤ 4096) (hlen : ns.length = len) (hr : ReadsI w a ns) (hns : ∀ x ∈ ns, -9223372036854775808 ≤ x ∧ x ≤ 9223372036854775807) :
    Calls Try.prog 27 #[.slice a len cap] w fun e w' => ∃ v, e = .returned (.tuple #[v, .int .i64 0]) ∧ Made w' w.heap.size v (enc len ++ encs ns) ∧ Below w.heap.size w w' := by
  have h' : ¬ (4096 : Int) < len := by omega
  have HL := Lib.hid hlen
  have HR := Lib.hid hr
  have HN := Lib.hid hns
  clear hlen hr hns
  go_enter Try.func27, Try.ntmps27
  go_wp2_with fail
  refine (rcount_any len w (by omega)).mono ?_
  rintro e w1 ⟨v', rfl, hm, hb⟩
  obtain ⟨g, c, -, hown⟩ := hm
  have HO := Lib.hid hown
  clear hown
  go_wp2_with fail
  go_loopw [4, 5] (fun v s wr => ∃ (k n : Nat), k ≤ len ∧ s = .int .i64 (k : Int) ∧ n ≤ 10 + 10 * k ∧ Hid (wr.ownsRow w.heap.size 5 1 v n ((enc len ++ encs (ns.take k)).map (Value.int .u8))) ∧ Hid (Below w.heap.size w wr))
    (fun _ s _ => len - (intOf s).toNat)
  case atStart =>
    refine ⟨0, (enc len).length, Nat.zero_le _, rfl, ?_, ?_, hb⟩
    · have := enc_length len (by omega); omega
    · have e := HO.out
      simpa [Hid, encs] using e
  case round =>
    obtain ⟨k, n, hk, rfl, hn, hown, hbr⟩ := hrel
    by_cases hlt : k < len
    · obtain ⟨b, off, rfl, hcell⟩ : ∃ b off, a = some ⟨b, off, none⟩ ∧ ∀ i, i < ns.length → wr.cell? ⟨b, off + i, none⟩ = some (.int .i64 (ns.getD i 0)) := by
        rcases HR.out.below hbr.out with h | h
        · have := HL.out; subst h; simp at this; omega
        · exact h
      obtain ⟨x, hx⟩ : ∃ x, x = ns.getD k 0 := ⟨_, rfl⟩
      have hcx : wr.cell? ⟨b, off + k, none⟩ = some (.int .i64 x) := by
        rw [hx]; exact hcell k (by rw [HL.out]; exact hlt)
      have hxr : Hid (-9223372036854775808 ≤ x ∧ x ≤ 9223372036854775807) := by
        have h1 : k < ns.length := by rw [HL.out]; exact hlt
        rw [hx]
        exact HN.out _ (by simp [List.getD, List.getElem?_eq_getElem h1])
      have HX := Lib.hid hx
      clear hx hcell
      go_wp2_with fail
      refine (rint_any x wr hxr.out.1 hxr.out.2).mono ?_
      rintro e w2 ⟨v2, rfl, hm2, hb2⟩
      have hl2 := enc_length (fo x) (by have := fo_lt x hxr.out.1 hxr.out.2; omega)
      obtain ⟨g2, c2, hv2, hsrc2⟩ := hm2.src (enc_range _) (by omega)
      have HS2 := Lib.hid hsrc2
      have HO2 := Lib.hid (ownsRow_below hown.out hb2 (fun k h => (hown.out.lt k h).2))
      have HB2 := Lib.hid (hbr.out.trans (hb2.mono hbr.out.size))
      clear hm2 hsrc2 hb2
      subst hv2
      go_wp2_with (at_builtin; refine wpl_append_src rfl (.tmp 19) (.tmp 24) rfl w.heap.size _ n _ rfl HO2.out _ _ c2 _ HS2.out (fun h => by cases h) rfl (by omega) HB2.out.size ?_)
      intro v3 w3 own3 gr3
      have HO3 : Hid (w3.ownsRow w.heap.size 5 1 v3 (n + (enc (fo x)).length) ((enc len ++ encs (ns.take (k + 1))).map (Value.int .u8))) := by
        rw [encs_take ns k (by rw [HL.out]; exact hlt), ← HX.out]
        unfold Hid
        simpa [List.append_assoc] using own3
      have HB3 := Lib.hid (HB2.out.grown gr3 HB2.out.size (fun k h => (HO2.out.lt k h).1))
      clear own3 gr3
      go_wp2_with fail
      go_roundw
      case rel => exact ⟨k + 1, n + (enc (fo x)).length, by omega, by go_num, by omega, HO3, HB3⟩
      case measure => simp [intOf]; omega
    · obtain rfl : k = len := by omega
      have hm : Made wr w.heap.size u4 (enc k ++ encs ns) := by
        have e := hown.out
        rw [List.take_of_length_le (by rw [HL.out]; exact Nat.le_refl _)] at e
        exact made_of e (by have := enc_length_pos k; simp; omega)
      have HM := Lib.hid hm
      clear hm
      go_wp2_with fail
      go_ret2
      exact ⟨_, rfl, HM.out, hbr.out⟩

end Go.Proofs.Ytkjcdndlhjacfaa
