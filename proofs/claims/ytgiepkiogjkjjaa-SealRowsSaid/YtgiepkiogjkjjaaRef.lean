/-
  The document's own answers for layer 1: what each of its functions returns.
-/
import Derived.Test.YtgiepkiogjkjjaaSame
namespace Go.Proofs.Ytgiepkiogjkjjaa
open Go.RowKit

theorem u8_add128 (u : Nat) : IntKind.u8.wrap ((u : Int) % 128 + 128) = ((u % 128 + 128 : Nat) : Int) := by
  have e : IntKind.u8.wrap ((u : Int) % 128 + 128) = ((u : Int) % 128 + 128) % 256 := rfl
  rw [e]; omega

set_option maxHeartbeats 400000 in
set_option maxRecDepth 20000 in
theorem rdigits_any : ∀ (f u : Nat) (w : World), u < 128 ^ f → f ≤ 10 → u < 2 ^ 64 →
    Calls Try.prog 37 #[.int .u64 (u : Int)] w fun e w' => ∃ v, e = .returned v ∧
      w'.ownsRow w.heap.size 5 1 v (digs u).length ((digs u).map (Value.int .u8)) ∧ Below w.heap.size w w' := by
  intro f
  induction f with
  | zero =>
    intro u w h _ _
    obtain rfl : u = 0 := by omega
    go_enter Try.func37, Try.ntmps37
    go_wp2_with fail
    go_ret
    exact ⟨_, rfl, World.ownsRow_nil _ _ _ _, Below.refl _ _⟩
  | succ f ih =>
    intro u w h hf hu
    by_cases h0 : u = 0
    · subst h0
      go_enter Try.func37, Try.ntmps37
      go_wp2_with fail
      go_ret
      exact ⟨_, rfl, World.ownsRow_nil _ _ _ _, Below.refl _ _⟩
    · obtain ⟨i0, hi, hz0, hz1, hz2⟩ := info_parts infoU8
      have hne : ((u : Int) == 0) = false := by rw [beq_eq_false_iff_ne]; omega
      have IH := Lib.hid (ih (u / 128) w (by rw [Nat.pow_succ] at h; omega) (by omega) (by omega))
      have hd : IntKind.u64.wrap ((u : Int) / 128) = ((u / 128 : Nat) : Int) := by
        rw [IntWalk.u64_in _ ⟨by omega, by omega⟩]; omega
      have hm : IntKind.u64.wrap ((u : Int) % 128) = (u : Int) % 128 := IntWalk.u64_in _ ⟨by omega, by omega⟩
      have ha := u8_add128 u
      have HD := Lib.hid (digs_pos u h0)
      have hl := digs_length f (u / 128) (by rw [Nat.pow_succ] at h; omega)
      have HL := Lib.hid hl
      clear ih h h0 hu hl
      go_enter Try.func37, Try.ntmps37
      go_wp2_with fail
      refine IH.out.mono ?_
      rintro e w1 ⟨v1, rfl, own1, b1⟩
      go_wp2_with (at_builtin; refine wpList_append_own _ rfl _ _ 22 rfl w.heap.size 5 i0 (.int .u8 0) 1 1 Try.underlying22 hi hz0 hz1 hz2 rfl (by decide) _ _ _ rfl (own1.alloc _) ⟨w1.heap.size, 0, none⟩ 1 1 [.int .u8 ((u % 128 + 128 : Nat) : Int)] rfl rfl ?c1 ?c2 ?c3 ?c4 ?c5 ?_)
      case c1 =>
        intro i x hx
        match i, hx with
        | 0, hx => simp at hx; subst hx; simp [Addr.add]
      case c2 => intro x hx; simp at hx; subst hx; rfl
      case c3 => have := HL.out; unfold maxLen; omega
      case c4 => have := HL.out; omega
      case c5 => have := b1.size; simp; omega
      intro v2 w2 own2 gr2 _
      have hb2 := (b1.alloc b1.size _).grown gr2 (by have := b1.size; simp; omega) (fun k h => (own1.lt k h).1)
      have HO2 : Hid (w2.ownsRow w.heap.size 5 1 v2 (digs u).length ((digs u).map (Value.int .u8))) := by
        rw [HD.out]
        simpa [Hid] using own2
      clear own2 gr2 own1 b1
      go_wp2_with fail
      go_ret
      exact ⟨_, rfl, HO2.out, hb2⟩

set_option maxRecDepth 20000 in
theorem rcount_any (u : Nat) (w : World) (hu : u < 2 ^ 64) :
    Calls Try.prog 31 #[.int .u64 (u : Int)] w fun e w' => ∃ v, e = .returned v ∧ Made w' w.heap.size v (enc u) ∧ Below w.heap.size w w' := by
  obtain ⟨i0, hi, hz0, hz1, hz2⟩ := info_parts infoU8
  have hd : IntKind.u64.wrap ((u : Int) / 128) = ((u / 128 : Nat) : Int) := by
    rw [IntWalk.u64_in _ ⟨by omega, by omega⟩]; omega
  have hm : IntKind.u64.wrap ((u : Int) % 128) = (u : Int) % 128 := IntWalk.u64_in _ ⟨by omega, by omega⟩
  have IH := Lib.hid (rdigits_any 9 (u / 128) w (by omega) (by omega) (by omega))
  have HL := Lib.hid (digs_length 9 (u / 128) (by omega))
  clear hu
  go_enter Try.func31, Try.ntmps31
  go_wp2_with fail
  refine IH.out.mono ?_
  rintro e w1 ⟨v1, rfl, own1, b1⟩
  go_wp2_with (at_builtin; refine wpList_append_own _ rfl _ _ 22 rfl w.heap.size 5 i0 (.int .u8 0) 1 1 Try.underlying22 hi hz0 hz1 hz2 rfl (by decide) _ _ _ rfl (own1.alloc _) ⟨w1.heap.size, 0, none⟩ 1 1 [.int .u8 ((u % 128 : Nat) : Int)] rfl rfl ?c1 ?c2 ?c3 ?c4 ?c5 ?_)
  case c1 =>
    intro i x hx
    match i, hx with
    | 0, hx => simp at hx; subst hx; simp [Addr.add]
  case c2 => intro x hx; simp at hx; subst hx; rfl
  case c3 => have := HL.out; unfold maxLen; omega
  case c4 => have := HL.out; omega
  case c5 => have := b1.size; simp; omega
  intro v2 w2 own2 gr2 _
  have hb2 := (b1.alloc b1.size _).grown gr2 (by have := b1.size; simp; omega) (fun k h => (own1.lt k h).1)
  have HO2 : Hid (Made w2 w.heap.size v2 (enc u)) := by
    refine made_of (n := (digs (u / 128)).length + 1) ?_ (enc_length_pos u)
    simpa [enc] using own2
  clear own2 gr2 own1 b1
  go_wp2_with fail
  go_ret
  exact ⟨_, rfl, HO2.out, hb2⟩

end Go.Proofs.Ytgiepkiogjkjjaa
