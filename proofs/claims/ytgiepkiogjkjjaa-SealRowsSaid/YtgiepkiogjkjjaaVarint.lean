import Derived.Test.YtgiepkiogjkjjaaRows
import Derived.Test.YtgiepkiogjkjjaaMath
import Derived.WalkKit
import Derived.WalkSpells
import Derived.Lib.Hide
import Derived.WalkLawsBesides
namespace Go.Proofs.Ytgiepkiogjkjjaa
open Go.RowKit

theorem infoU8 : (Try.prog.info? 5).map (fun i => (i.zero, i.size, i.bytes)) = some (some (.int .u8 0), 1, 1) := by kernel_rfl

def Up (u k : Nat) : Prop := k = 0 ∨ u / 2 ^ (7 * k) ≠ 0

theorem cast_shr (u m : Nat) : ((u : Int) / 2 ^ m) = ((u / 2 ^ m : Nat) : Int) := by simp

theorem shr_seven (u k : Nat) : u / 2 ^ (7 * k + 7) = u / 2 ^ (7 * k) / 128 := by
  rw [Nat.pow_add, Nat.div_div_eq_div_mul]

theorem up_next {u k : Nat} (hu : u < 2 ^ 64) (h : (128 : Int) ≤ (u : Int) / 2 ^ (7 * k)) : k + 1 ≤ 9 ∧ Up u (k + 1) := by
  rw [cast_shr] at h
  have h' : 128 ≤ u / 2 ^ (7 * k) := by omega
  have hk : k + 1 ≤ 9 := by
    by_cases hk : k + 1 ≤ 9
    · exact hk
    · exfalso
      have h1 : 2 ^ 63 ≤ 2 ^ (7 * k) := Nat.pow_le_pow_right (by omega) (by omega)
      have h2 : u / 2 ^ (7 * k) ≤ u / 2 ^ 63 := Nat.div_le_div_left h1 (by decide)
      have h3 : u / 2 ^ 63 < 2 := Nat.div_lt_of_lt_mul (by omega)
      omega
  refine ⟨hk, .inr ?_⟩
  rw [Nat.mul_add, shr_seven]
  omega

theorem up_top {u k : Nat} (h : (u : Int) / 2 ^ (7 * k) < 128) : u / 2 ^ (7 * k + 7) = 0 := by
  rw [cast_shr] at h
  rw [shr_seven]
  generalize u / 2 ^ (7 * k) = a at *
  omega

theorem dig_lt {u : Nat} (m : Nat) (hu : u < 2 ^ 64) : u / 2 ^ m < 128 ^ 10 := by
  have := Nat.div_le_self u (2 ^ m)
  omega

theorem or128 (x : Nat) : bits .or .u8 ((x : Int) % 256) 128 = ((x % 128 + 128 : Nat) : Int) := by
  have h := u8_or_nat (x % 256) 128 (by omega) (by omega)
  have e : ((x % 256 : Nat) : Int) = (x : Int) % 256 := by omega
  rw [e] at h
  rw [show ((128 : Int)) = ((128 : Nat) : Int) from rfl, h]
  have h2 : x % 256 ||| 128 = x % 128 + 128 := by
    have : ∀ y : Fin 256, y.val ||| 128 = y.val % 128 + 128 := by decide +kernel
    have := this ⟨x % 256, by omega⟩
    simp only at this
    rw [this]; omega
  rw [h2]

theorem mid_byte (u j : Nat) : bits .or .u8 ((u : Int) / 2 ^ (7 * j) % 256) 128 = ((u / 2 ^ (7 * j) % 128 + 128 : Nat) : Int) := by
  rw [cast_shr, or128]

theorem last_byte (u : Nat) (hu : u < 2 ^ 64) : bits .and .u64 (u : Int) 127 % 256 = ((u % 128 : Nat) : Int) := by
  have h := u64_and_nat u 127 (by omega) (by decide)
  rw [show ((127 : Int)) = ((127 : Nat) : Int) from rfl, h]
  have := Nat.and_two_pow_sub_one_eq_mod u 7
  simp only [show 2 ^ 7 - 1 = 127 from rfl] at this
  rw [this]
  omega

theorem digs_step {u j : Nat} (h : Up u j) (h0 : ¬ j = 0) : digs (u / 2 ^ (7 * (j - 1) + 7)) = digs (u / 2 ^ (7 * j + 7)) ++ [((u / 2 ^ (7 * j) % 128 + 128 : Nat) : Int)] := by
  have e : 7 * (j - 1) + 7 = 7 * j := by omega
  rw [e, shr_seven]
  rcases h with h | h
  · exact absurd h h0
  · exact digs_pos _ h

theorem Up.pred {u j : Nat} (h : Up u j) : Up u (j - 1) := by
  rcases h with h | h
  · subst h; exact .inl rfl
  · by_cases h1 : j = 0
    · subst h1; exact .inl rfl
    · by_cases h2 : j = 1
      · subst h2; exact .inl rfl
      · refine .inr ?_
        have e : 7 * j = 7 * (j - 1) + 7 := by omega
        rw [e, shr_seven] at h
        intro h3
        rw [h3] at h
        exact h rfl

theorem end_owned {base n u : Nat} {t : TypeId} {xs : List Int} {v : Value} {w : World}
    (h : w.ownsRow base t 1 v (n + (digs (u / 128)).length + 1) (xs.map (Value.int .u8) ++ ((digs (u / 128)).map (Value.int .u8) ++ [.int .u8 ((u : Int) % 128)]))) :
    w.ownsRow base t 1 v (n + (enc u).length) ((xs ++ enc u).map (Value.int .u8)) := by
  simp only [enc, List.length_append, List.length_cons, List.length_nil, List.map_append, List.map_cons, List.map_nil, ← Nat.add_assoc, Nat.zero_add, ← List.append_assoc] at h ⊢
  exact h

theorem mid_owned {base n u j : Nat} {t : TypeId} {xs : List Int} {v : Value} {w : World}
    (hd : digs (u / 2 ^ (7 * (j - 1) + 7)) = digs (u / 2 ^ (7 * j + 7)) ++ [((u / 2 ^ (7 * j) % 128 + 128 : Nat) : Int)])
    (h : w.ownsRow base t 1 v (n + (digs (u / 2 ^ (7 * j + 7))).length + 1) (xs.map (Value.int .u8) ++ ((digs (u / 2 ^ (7 * j + 7))).map (Value.int .u8) ++ [.int .u8 ((u : Int) / 2 ^ (7 * j) % 128 + 128)]))) :
    w.ownsRow base t 1 v (n + (digs (u / 2 ^ (7 * (j - 1) + 7))).length) ((xs ++ digs (u / 2 ^ (7 * (j - 1) + 7))).map (Value.int .u8)) := by
  rw [hd]
  have e : ((u / 2 ^ (7 * j) % 128 + 128 : Nat) : Int) = (u : Int) / 2 ^ (7 * j) % 128 + 128 := by simp
  rw [e]
  simpa [Nat.add_assoc, List.append_assoc] using h

set_option maxHeartbeats 400000 in
set_option maxRecDepth 20000 in
theorem appendVarint_any (base : Nat) (v : Value) (n : Nat) (xs : List Int) (u : Nat) (w : World) (hu : u < 2 ^ 64)
    (hown : w.ownsRow base 5 1 v n (xs.map (Value.int .u8))) (hbase : base ≤ w.heap.size) (hn : n ≤ 100000000000) :
    Calls Try.prog 29 #[v, .int .u64 (u : Int)] w fun e w' => ∃ v', e = .returned v' ∧
      w'.ownsRow base 5 1 v' (n + (enc u).length) ((xs ++ enc u).map (Value.int .u8)) ∧ Below base w w' := by
  obtain ⟨i0, hi, hz0, hz1, hz2⟩ := info_parts infoU8
  go_enter Try.func29, Try.ntmps29
  have HU := Lib.hid hu
  clear hu
  go_wp2
  go_loop [5] (fun s => ∃ k : Nat, k ≤ 9 ∧ s = .int .i64 ((7 * k : Nat) : Int) ∧ Up u k) (fun s => (70 - (intOf s)).toNat)
  case atStart => exact ⟨0, by omega, rfl, .inl rfl⟩
  case round =>
    obtain ⟨k, hk, rfl, hup⟩ := hrel
    go_wp2
    · have hge : (128 : Int) ≤ (u : Int) / 2 ^ (7 * k) := by assumption
      have R := up_next (u := u) (k := k) HU.out hge
      go_round
      case rel => exact ⟨k + 1, R.1, by go_num, R.2⟩
      case measure => simp [intOf]; omega
    · have hlt : (u : Int) / 2 ^ (7 * k) < 128 := by assumption
      have HLT := Lib.hid hlt
      go_loopw [0, 5] (fun vr s wr => ∃ j : Nat, j ≤ 9 ∧ s = .int .i64 ((7 * j : Nat) : Int) ∧ Up u j ∧ wr.ownsRow base 5 1 vr (n + (digs (u / 2 ^ (7 * j + 7))).length) ((xs ++ digs (u / 2 ^ (7 * j + 7))).map (Value.int .u8)) ∧ Below base w wr)
        (fun _ s _ => (intOf s).toNat)
      case atStart => 
        have hz : u / 2 ^ (7 * k + 7) = 0 := up_top HLT.out
        exact ⟨k, hk, rfl, hup, by rw [hz]; simpa [digs_zero] using hown, Below.refl _ _⟩
      case round =>
        obtain ⟨j, hj, rfl, hupj, hownr, hbel⟩ := hrel
        have hd := digs_length 10 (u / 2 ^ (7 * j + 7)) (dig_lt _ HU.out)
        by_cases h0 : j = 0
        · subst h0
          have hv := last_byte u HU.out
          go_wp2_with (at_builtin; refine wpList_append_own _ rfl _ _ 22 rfl base 5 i0 (.int .u8 0) 1 1 Try.underlying22 hi hz0 hz1 hz2 rfl (by decide) _ _ _ rfl (hownr.alloc _) ⟨wr.heap.size, 0, none⟩ 1 1 [.int .u8 ((u % 128 : Nat) : Int)] rfl rfl ?d1 ?d2 ?d3 ?d4 ?d5 ?_)
          case d1 =>
            intro i x hx
            match i, hx with
            | 0, hx => simp at hx; subst hx; simp [Addr.add]
          case d2 => intro x hx; simp at hx; subst hx; rfl
          case d3 => unfold maxLen; omega
          case d4 => omega
          case d5 => have := hbel.size; simp; omega
          intro v' w1 hown' hgrow hne
          have hb' := (hbel.alloc (by have := hbel.size; omega) _).grown hgrow (by have := hbel.size; simp; omega) (fun k h => (hownr.lt k h).1)
          have hpost := end_owned hown'
          clear hown' hgrow hv hownr
          go_wp2
          go_ret
          exact ⟨_, rfl, hpost, hb'⟩
        · have hpos : (0 : Int) < 7 * (j : Int) := by omega
          have hv := mid_byte u j
          have hds := digs_step hupj h0
          have HDS := Lib.hid hds
          clear hds
          go_wp2_with (at_builtin; refine wpList_append_own _ rfl _ _ 22 rfl base 5 i0 (.int .u8 0) 1 1 Try.underlying22 hi hz0 hz1 hz2 rfl (by decide) _ _ _ rfl (hownr.alloc _) ⟨wr.heap.size, 0, none⟩ 1 1 [.int .u8 ((u / 2 ^ (7 * j) % 128 + 128 : Nat) : Int)] rfl rfl ?c1 ?c2 ?c3 ?c4 ?c5 ?_)
          case c1 =>
            intro i x hx
            match i, hx with
            | 0, hx => simp at hx; subst hx; simp [Addr.add]
          case c2 => intro x hx; simp at hx; subst hx; rfl
          case c3 => unfold maxLen; omega
          case c4 => omega
          case c5 => have := hbel.size; simp; omega
          intro v' w1 hown' hgrow hne
          have hb' := (hbel.alloc (by have := hbel.size; omega) _).grown hgrow (by have := hbel.size; simp; omega) (fun k h => (hownr.lt k h).1)
          have hpost := mid_owned HDS.out hown'
          clear hown' hgrow hv hownr
          go_wp2
          go_roundw
          case rel => exact ⟨j - 1, by omega, by go_num, hupj.pred, hpost, hb'⟩
          case measure => simp [intOf]; omega

end Go.Proofs.Ytgiepkiogjkjjaa
