/-
  What encodes: fold, Int, Text, Ints.
-/
import Derived.Test.YtkjcdndlhjacfaaUint
import Derived.Test.YtkjcdndlhjacfaaOpen
import Derived.Lib.AppendStr
namespace Go.Proofs.Ytkjcdndlhjacfaa
open Go.RowKit

/-- The number whose varint stands for n. -/
def fo (n : Int) : Nat := if 0 ≤ n then (2 * n).toNat else (-2 * n - 1).toNat

theorem xor_ones64 (a : Nat) (h : a < 2 ^ 64) : a ^^^ (2 ^ 64 - 1) = 2 ^ 64 - 1 - a := by
  have e := congrArg BitVec.toNat (BitVec.xor_allOnes (x := BitVec.ofNat 64 a))
  rw [BitVec.toNat_xor, BitVec.toNat_not, BitVec.toNat_allOnes, BitVec.toNat_ofNat, Nat.mod_eq_of_lt h] at e
  exact e

theorem wrap_u64 (n : Int) : IntKind.u64.wrap n = n % 18446744073709551616 := rfl

theorem fold_bits (n : Int) (h0 : -9223372036854775808 ≤ n) (h1 : n ≤ 9223372036854775807) :
    bits .xor .u64 (IntKind.u64.wrap (IntKind.u64.wrap n * 2)) (IntKind.u64.wrap (n / 9223372036854775808)) = ((fo n : Nat) : Int) := by
  rw [wrap_u64, wrap_u64, wrap_u64]
  by_cases hn : 0 ≤ n
  · have e1 : n % 18446744073709551616 * 2 % 18446744073709551616 = ((2 * n).toNat : Int) := by omega
    have e2 : n / 9223372036854775808 % 18446744073709551616 = ((0 : Nat) : Int) := by omega
    rw [e1, e2, u64_xor_nat _ _ (by omega) (by decide), Nat.xor_zero]
    unfold fo; rw [if_pos hn]
  · have e1 : n % 18446744073709551616 * 2 % 18446744073709551616 = ((2 * n + 18446744073709551616).toNat : Int) := by omega
    have e2 : n / 9223372036854775808 % 18446744073709551616 = ((2 ^ 64 - 1 : Nat) : Int) := by omega
    rw [e1, e2, u64_xor_nat _ _ (by omega) (by decide), xor_ones64 _ (by omega)]
    unfold fo; rw [if_neg hn]
    omega

theorem fo_lt (n : Int) (h0 : -9223372036854775808 ≤ n) (h1 : n ≤ 9223372036854775807) : fo n < 2 ^ 64 := by
  unfold fo; split <;> omega

theorem ret_u64' {a b : Int} (h : a = b) : Ending.returned (.int .u64 a) = .returned (.int .u64 b) := by rw [h]

set_option maxRecDepth 20000 in
theorem fold_any (n : Int) (w : World) (h0 : -9223372036854775808 ≤ n) (h1 : n ≤ 9223372036854775807) :
    Calls Try.prog 35 #[.int .i64 n] w fun e w' => e = .returned (.int .u64 (fo n)) ∧ w = w' := by
  have HB := Lib.hid (fold_bits n h0 h1)
  clear h0 h1
  go_enter Try.func35, Try.ntmps35
  go_wp2_with fail
  go_ret
  exact ⟨ret_u64' HB.out, rfl⟩

/-- A row of bytes that the call has made: its value, and that it is owned from G on. -/
def Made (w' : World) (G : Nat) (v : Value) (xs : List Int) : Prop :=
  ∃ g cap, v = .slice (some ⟨g, 0, none⟩) xs.length cap ∧ w'.ownsRow G 5 1 v xs.length (xs.map (Value.int .u8))

set_option maxRecDepth 20000 in
theorem int_any (n : Int) (w : World) (h0 : -9223372036854775808 ≤ n) (h1 : n ≤ 9223372036854775807) :
    Calls Try.prog 17 #[.int .i64 n] w fun e w' => ∃ v, e = .returned v ∧ Made w' w.heap.size v (enc (fo n)) ∧ Below w.heap.size w w' := by
  have HF := Lib.hid (fold_any n w h0 h1)
  have HL := Lib.hid (fo_lt n h0 h1)
  clear h0 h1
  go_enter Try.func17, Try.ntmps17
  go_wp2_with fail
  refine HF.out.mono ?_
  rintro e w1 ⟨rfl, rfl⟩
  go_wp2_with fail
  refine (appendVarint_any w.heap.size _ 0 [] (fo n) w HL.out (World.ownsRow_nil _ _ _ _) (Nat.le_refl _) (by omega)).mono ?_
  rintro e w1 ⟨v', rfl, hown, hb⟩
  go_wp2_with fail
  go_ret
  have hown' : w1.ownsRow w.heap.size 5 1 v' (enc (fo n)).length ((enc (fo n)).map (Value.int .u8)) := by simpa using hown
  obtain ⟨g, cap, hv, _⟩ := ownsRow_some hown' (enc_length_pos _)
  exact ⟨v', rfl, ⟨g, cap, hv, hown'⟩, hb⟩

/-- A string's bytes as numbers. -/
def sb (s : ByteArray) : List Int := s.data.toList.map fun b => (b.toNat : Int)

theorem sb_length (s : ByteArray) : (sb s).length = s.size := by
  rw [sb, List.length_map, Array.length_toList]; rfl
theorem sb_cells (s : ByteArray) : Lib.strCells s = (sb s).map (Value.int .u8) := by simp [Lib.strCells, sb]
theorem sb_range (s : ByteArray) : ∀ x ∈ sb s, 0 ≤ x ∧ x < 256 := by
  intro x hx
  simp only [sb, List.mem_map] at hx
  obtain ⟨b, _, rfl⟩ := hx
  have := b.toNat_lt
  omega

theorem sb_str (s : ByteArray) : strOfNums (sb s) = s := by
  have e : (strOfNums (sb s)).data.toList = s.data.toList := by
    rw [strOfNums_data, sb, List.map_map]
    conv => rhs; rw [← List.map_id s.data.toList]
    apply List.map_congr_left
    intro b _
    simp
  exact WideShapes.bytes_inj e

set_option maxRecDepth 20000 in
theorem text_long (s : ByteArray) (w : World) (h : 65535 < s.size) :
    Calls Try.prog 21 #[.string s] w fun e w' => e = .returned (.tuple #[.slice none 0 0, .int .i64 2]) ∧ w = w' := by
  have h' : (65535 : Int) < s.size := by omega
  go_enter Try.func21, Try.ntmps21
  go_wp2_with fail
  go_ret2
  exact ⟨rfl, rfl⟩

theorem made_of {w : World} {G : Nat} {v : Value} {n : Nat} {xs : List Int} (h : w.ownsRow G 5 1 v n (xs.map (Value.int .u8))) (h0 : 0 < xs.length) : Made w G v xs := by
  have e : n = xs.length := by have := h.1; simp at this; omega
  subst e
  obtain ⟨g, cap, hv, _⟩ := ownsRow_some h h0
  exact ⟨g, cap, hv, h⟩

set_option maxRecDepth 20000 in
theorem text_short (s : ByteArray) (w : World) (h : s.size ≤ 65535) :
    Calls Try.prog 21 #[.string s] w fun e w' => ∃ v, e = .returned (.tuple #[v, .int .i64 0]) ∧ Made w' w.heap.size v (enc s.size ++ sb s) ∧ Below w.heap.size w w' := by
  obtain ⟨i0, hi, hz0, hz1, hz2⟩ := info_parts infoU8
  have h' : ¬ (65535 : Int) < s.size := by omega
  have hl := enc_length s.size (by omega)
  go_enter Try.func21, Try.ntmps21
  go_wp2_with fail
  refine (appendVarint_any w.heap.size _ 0 [] s.size w (by omega) (World.ownsRow_nil _ _ _ _) (Nat.le_refl _) (by omega)).mono ?_
  rintro e w1 ⟨v', rfl, hown, hb⟩
  go_wp2_with (at_builtin; refine Lib.wpList_append_own_string _ rfl _ _ 22 9 rfl w.heap.size 5 i0 Try.underlying22 Try.underlying9 hi hz0 hz1 hz2 _ _ _ rfl hown s rfl (by unfold maxLen; omega) (by omega) hb.size ?_)
  intro v2 w2 hown2 hgrow _
  have hb2 := hb.grown hgrow hb.size (fun k h => (hown.lt k h).1)
  have hm : Made w2 w.heap.size v2 (enc s.size ++ sb s) := by
    rw [sb_cells] at hown2
    simp only [← List.map_append] at hown2
    exact made_of hown2 (by have := enc_length_pos s.size; simp; omega)
  clear hown hown2 hgrow hb
  go_wp2_with fail
  go_ret2
  exact ⟨v2, rfl, hm, hb2⟩

/-- Ints that came in: a slice's value and the numbers that it leads to. -/
def ReadsI (w : World) (a : Option Addr) (ns : List Int) : Prop := ns = [] ∨ ∃ b off, a = some ⟨b, off, none⟩ ∧ ∀ i, i < ns.length → w.cell? ⟨b, off + i, none⟩ = some (.int .i64 (ns.getD i 0))

theorem ReadsI.below {w w' : World} {a : Option Addr} {ns : List Int} (h : ReadsI w a ns) (ho : Below w.heap.size w w') : ReadsI w' a ns := by
  rcases h with h | ⟨b, off, ha, hc⟩
  · exact .inl h
  · refine .inr ⟨b, off, ha, fun i hi => ?_⟩
    have h1 := hc i hi
    have h2 := World.block_lt_of_cell? w _ h1
    rw [← h1]
    exact World.cell?_of_block (w := w) (ho.block b h2)

def encs (ns : List Int) : List Int := ns.flatMap fun n => enc (fo n)

theorem encs_take (ns : List Int) (k : Nat) (h : k < ns.length) : encs (ns.take (k + 1)) = encs (ns.take k) ++ enc (fo (ns.getD k 0)) := by
  unfold encs
  rw [List.take_succ_eq_append_getElem h, List.flatMap_append]
  simp [List.getD, List.getElem?_eq_getElem h]

theorem encs_length : ∀ (ns : List Int), (∀ x ∈ ns, -9223372036854775808 ≤ x ∧ x ≤ 9223372036854775807) → (encs ns).length ≤ 10 * ns.length := by
  intro ns
  induction ns with
  | nil => intro _; simp [encs]
  | cons n ns ih =>
    intro h
    have h1 := ih fun x hx => h x (by simp [hx])
    have h2 := h n (by simp)
    have h3 := enc_length (fo n) (by have := fo_lt n h2.1 h2.2; omega)
    simp only [encs, List.flatMap_cons, List.length_append, List.length_cons] at h1 ⊢
    omega

set_option maxRecDepth 20000 in
theorem ints_long (a : Option Addr) (len cap : Nat) (w : World) (h : 4096 < len) :
    Calls Try.prog 25 #[.slice a len cap] w fun e w' => e = .returned (.tuple #[.slice none 0 0, .int .i64 2]) ∧ w = w' := by
  have h' : (4096 : Int) < len := by omega
  go_enter Try.func25, Try.ntmps25
  go_wp2_with fail
  go_ret2
  exact ⟨rfl, rfl⟩

set_option maxHeartbeats 800000 in
set_option maxRecDepth 20000 in
theorem ints_short (a : Option Addr) (len cap : Nat) (ns : List Int) (w : World) (h : len ≤ 4096) (hlen : ns.length = len) (hr : ReadsI w a ns) (hns : ∀ x ∈ ns, -9223372036854775808 ≤ x ∧ x ≤ 9223372036854775807) :
    Calls Try.prog 25 #[.slice a len cap] w fun e w' => ∃ v, e = .returned (.tuple #[v, .int .i64 0]) ∧ Made w' w.heap.size v (enc len ++ encs ns) ∧ Below w.heap.size w w' := by
  have h' : ¬ (4096 : Int) < len := by omega
  have HL := Lib.hid hlen
  have HR := Lib.hid hr
  have HN := Lib.hid hns
  clear hlen hr hns
  go_enter Try.func25, Try.ntmps25
  go_wp2_with fail
  refine (appendVarint_any w.heap.size _ 0 [] len w (by omega) (World.ownsRow_nil _ _ _ _) (Nat.le_refl _) (by omega)).mono ?_
  rintro e w1 ⟨v', rfl, hown, hb⟩
  have HO := Lib.hid hown
  clear hown
  go_wp2_with fail
  go_loopw [4, 16] (fun v s wr => ∃ (k n : Nat), k ≤ len ∧ s = .int .i64 (k : Int) ∧ n ≤ 10 + 10 * k ∧ Hid (wr.ownsRow w.heap.size 5 1 v n ((enc len ++ encs (ns.take k)).map (Value.int .u8))) ∧ Hid (Below w.heap.size w wr))
    (fun _ s _ => len - (intOf s).toNat)
  case atStart =>
    refine ⟨0, 0 + (enc len).length, Nat.zero_le _, rfl, ?_, ?_, hb⟩
    · have := enc_length len (by omega); omega
    · have e := HO.out
      simpa [Hid, encs] using e
  case round =>
    obtain ⟨k, n, hk, rfl, hn, hown, hbr⟩ := hrel
    by_cases hlt : k < len
    · obtain ⟨b, off, rfl, hcell⟩ : ∃ b off, a = some ⟨b, off, none⟩ ∧ ∀ i, i < ns.length → wr.cell? ⟨b, off + i, none⟩ = some (.int .i64 (ns.getD i 0)) := by
        rcases HR.out.below hbr.out with h | h
        · have := HL.out; subst h; simp at this; omega
        · exact h
      obtain ⟨x, hx⟩ : ∃ x, x = ns.getD k 0 := ⟨_, rfl⟩
      have hcx : wr.cell? ⟨b, off + k, none⟩ = some (.int .i64 x) := by
        rw [hx]; exact hcell k (by rw [HL.out]; exact hlt)
      have hxr : Hid (-9223372036854775808 ≤ x ∧ x ≤ 9223372036854775807) := by
        have h1 : k < ns.length := by rw [HL.out]; exact hlt
        rw [hx]
        exact HN.out _ (by simp [List.getD, List.getElem?_eq_getElem h1])
      have HX := Lib.hid hx
      clear hx hcell
      go_wp2_with fail
      refine (fold_any x wr hxr.out.1 hxr.out.2).mono ?_
      rintro e w2 ⟨rfl, rfl⟩
      go_wp2_with fail
      refine (appendVarint_any w.heap.size _ n _ (fo x) wr (fo_lt x hxr.out.1 hxr.out.2) hown.out hbr.out.size (by omega)).mono ?_
      rintro e w2 ⟨v2, rfl, hown2, hb2⟩
      have HO2 : Hid (w2.ownsRow w.heap.size 5 1 v2 (n + (enc (fo x)).length) ((enc len ++ encs (ns.take (k + 1))).map (Value.int .u8))) := by
        rw [encs_take ns k (by rw [HL.out]; exact hlt), ← HX.out]
        unfold Hid
        simpa [List.append_assoc] using hown2
      have HB2 := Lib.hid (hbr.out.trans hb2)
      have hl2 := enc_length (fo x) (by have := fo_lt x hxr.out.1 hxr.out.2; omega)
      clear hown2 hb2
      go_wp2_with fail
      go_roundw
      case rel => exact ⟨k + 1, n + (enc (fo x)).length, by omega, by go_num, by omega, HO2, HB2⟩
      case measure => simp [intOf]; omega
    · obtain rfl : k = len := by omega
      have hm : Made wr w.heap.size u4 (enc k ++ encs ns) := by
        have e := hown.out
        rw [List.take_of_length_le (by rw [HL.out]; exact Nat.le_refl _)] at e
        exact made_of e (by have := enc_length_pos k; simp; omega)
      have HM := Lib.hid hm
      clear hm
      go_wp2_with fail
      go_ret2
      exact ⟨_, rfl, HM.out, hbr.out⟩

end Go.Proofs.Ytkjcdndlhjacfaa
