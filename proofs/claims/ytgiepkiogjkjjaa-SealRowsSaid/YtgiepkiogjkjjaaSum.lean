/-
  The check sum of parts: the table's sum.
-/
import Derived.Test.YtgiepkiogjkjjaaTab
import Derived.Test.YtgiepkiogjkjjaaList
namespace Go.Proofs.Ytgiepkiogjkjjaa
open Go.RowKit

/-- A slice of bytes among others: its value and what it leads to. -/
structure Piece where
  a : Option Addr
  len : Nat
  cap : Nat
  bs : List Int

def Piece.val (p : Piece) : Value := .slice p.a p.len p.cap

/-- All bytes of the pieces, one behind the other. -/
def flat (ps : List Piece) : List Int := ps.flatMap (·.bs)

theorem flat_take {ps : List Piece} {k : Nat} {p : Piece} (h : ps[k]? = some p) : flat (ps.take (k + 1)) = flat (ps.take k) ++ p.bs := by
  obtain ⟨hk, rfl⟩ := List.getElem?_eq_some_iff.1 h
  unfold flat
  rw [List.take_succ_eq_append_getElem hk, List.flatMap_append]
  simp

/-- A row of slices of bytes that is handed over: its cells and what they lead to, apart from block B. -/
structure PartsAt (w : World) (B : Nat) (pa : Option Addr) (ps : List Piece) : Prop where
  cells : ∀ i p, ps[i]? = some p → ∃ b off, pa = some ⟨b, off, none⟩ ∧ b ≠ B ∧ w.cell? ⟨b, off + i, none⟩ = some p.val
  srcs : ∀ p ∈ ps, Src w p.a p.len p.cap p.bs ∧ (p.bs ≠ [] → ∀ b off, p.a = some ⟨b, off, none⟩ → b ≠ B)

theorem Src.only {w w' : World} {a : Option Addr} {len cap B : Nat} {bs : List Int} (h : Src w a len cap bs) (ho : Only B w w') (hB : bs ≠ [] → ∀ b off, a = some ⟨b, off, none⟩ → b ≠ B) : Src w' a len cap bs :=
  ⟨h.reads.grows (ho.grows (Nat.le_refl _)) hB, h.size, h.small, h.caps, h.bytes⟩

theorem Only.cellAt {w w' : World} {B b off : Nat} {v : Value} (ho : Only B w w') (hb : b ≠ B) (h : w.cell? ⟨b, off, none⟩ = some v) : w'.cell? ⟨b, off, none⟩ = some v := by
  have h2 := World.block_lt_of_cell? w _ h
  rw [← h]
  exact World.cell?_of_block (w := w) (ho.1.block b h2 (by simpa using hb))

theorem PartsAt.only {w w' : World} {B : Nat} {pa : Option Addr} {ps : List Piece} (h : PartsAt w B pa ps) (ho : Only B w w') : PartsAt w' B pa ps where
  cells := fun i p hp => by
    obtain ⟨b, off, ha, hb, hc⟩ := h.cells i p hp
    exact ⟨b, off, ha, hb, ho.cellAt hb hc⟩
  srcs := fun p hp => ⟨(h.srcs p hp).1.only ho (h.srcs p hp).2, (h.srcs p hp).2⟩

theorem flat_range {w : World} {B : Nat} {pa : Option Addr} {ps : List Piece} (h : PartsAt w B pa ps) : ∀ x ∈ flat ps, 0 ≤ x ∧ x < 256 := by
  intro x hx
  simp only [flat, List.mem_flatMap] at hx
  obtain ⟨p, hp, hx⟩ := hx
  exact (h.srcs p hp).1.bytes x hx

theorem flat_take_range {w : World} {B : Nat} {pa : Option Addr} {ps : List Piece} (h : PartsAt w B pa ps) (k : Nat) : ∀ x ∈ flat (ps.take k), 0 ≤ x ∧ x < 256 := by
  intro x hx
  simp only [flat, List.mem_flatMap] at hx
  obtain ⟨p, hp, hx⟩ := hx
  exact (h.srcs p (List.mem_of_mem_take hp)).1.bytes x hx

theorem index_bits (r : Nat) (x : Int) (hr : r < 4294967296) (hx : 0 ≤ x ∧ x < 256) : bits .xor .u8 ((r : Int) / 16777216 % 256) x = ((r / 16777216 ^^^ x.toNat : Nat) : Int) := by
  have e1 : (r : Int) / 16777216 % 256 = ((r / 16777216 : Nat) : Int) := by omega
  have e2 : x = ((x.toNat : Nat) : Int) := by omega
  rw [e1]
  conv => lhs; rw [e2]
  exact u8_xor_nat _ _ (by omega) (by omega)

theorem upd_bits (r : Nat) (x : Int) (hr : r < 4294967296) (hx : 0 ≤ x ∧ x < 256) :
    bits .xor .u32 ((r : Int) * 256 % 4294967296) ((sh8 ((r / 16777216 ^^^ x.toNat) * 16777216) : Nat) : Int) = ((upd r x.toNat : Nat) : Int) := by
  have e1 : (r : Int) * 256 % 4294967296 = ((r * 256 % 4294967296 : Nat) : Int) := by omega
  have hx8 : r / 16777216 ^^^ x.toNat < 256 := Nat.xor_lt_two_pow (n := 8) (by omega) (by omega)
  rw [e1, u32_xor_nat _ _ (by omega) (sh8_lt (by omega)), upd_table hr (by omega)]

theorem flip_bits (r : Nat) (hr : r < 4294967296) : bits .xor .u32 4294967295 (r : Int) = ((4294967295 - r : Nat) : Int) := by
  rw [show (4294967295 : Int) = ((4294967295 : Nat) : Int) from rfl, u32_xor_nat _ _ (by decide) hr]
  congr 1
  have e := congrArg BitVec.toNat (BitVec.xor_allOnes (x := BitVec.ofNat 32 r))
  rw [BitVec.toNat_xor, BitVec.toNat_not, BitVec.toNat_allOnes, BitVec.toNat_ofNat, Nat.mod_eq_of_lt (by omega)] at e
  rw [Nat.xor_comm]
  exact e

set_option maxHeartbeats 800000 in
set_option maxRecDepth 20000 in
theorem tsum_any (w : World) (B n cap : Nat) (pa : Option Addr) (ps : List Piece) (hT : TabAt w B) (hP : PartsAt w B pa ps) (hn : ps.length = n) (hs : n ≤ 1000000000000000) :
    Calls Try.prog 21 #[.pointer (some ⟨B, 0, none⟩), .slice pa n cap] w fun e w' =>
      e = .returned (.int .u32 ((crcN (flat ps) : Nat) : Int)) ∧ TabAt w' B ∧ Only B w w' := by
  have HN := Lib.hid hn
  have HP := Lib.hid hP
  have HT := Lib.hid hT
  clear hn hP hT
  go_enter Try.func21, Try.ntmps21
  go_wp2_with fail
  go_loopw [5, 12] (fun rv iv wr => ∃ (k r : Nat), k ≤ n ∧ iv = .int .i64 (k : Int) ∧ rv = .int .u32 (r : Int) ∧ Hid (r = crcR 4294967295 (flat (ps.take k))) ∧ Hid (TabAt wr B) ∧ Hid (Only B w wr))
    (fun _ iv _ => n - (intOf iv).toNat)
  case atStart => exact ⟨0, 4294967295, Nat.zero_le _, rfl, rfl, rfl, HT, Only.refl _ _⟩
  case round =>
    obtain ⟨k, r, hk, rfl, rfl, hr, ht, ho⟩ := hrel
    by_cases hlt : k < n
    · obtain ⟨p, hp⟩ : ∃ p, ps[k]? = some p := ⟨_, List.getElem?_eq_getElem (by rw [HN.out]; exact hlt)⟩
      obtain ⟨pb, po, rfl, hpb, hpc⟩ := HP.out.cells k p hp
      have hcl := ho.out.cellAt hpb hpc
      have hmem : p ∈ ps := List.mem_of_getElem? hp
      have HSRC := Lib.hid (HP.out.srcs p hmem)
      have HFL := Lib.hid (flat_take hp)
      have hps := (HP.out.srcs p hmem).1.small
      have HPS := Lib.hid (HP.out.srcs p hmem).1.size
      clear hpc hp hmem hpb
      obtain ⟨a, len, c, bs⟩ := p
      simp only [Piece.val] at hcl HSRC HFL hps HPS
      obtain ⟨wo, hwo⟩ : ∃ wo : World, wo = wr := ⟨_, rfl⟩
      rw [← hwo] at ht ho hcl ⊢
      clear hwo
      go_wp2_with fail
      go_loopw [5, 18] (fun rv iv wx => ∃ (j r : Nat), j ≤ len ∧ iv = .int .i64 (j : Int) ∧ rv = .int .u32 (r : Int) ∧ Hid (r = crcR 4294967295 (flat (ps.take k) ++ bs.take j)) ∧ Hid (TabAt wx B) ∧ Hid (Only B w wx))
        (fun _ iv _ => len - (intOf iv).toNat)
      case atStart => exact ⟨0, r, Nat.zero_le _, rfl, rfl, by have e := hr.out; unfold Hid; simpa using e, ht, ho⟩
      case round =>
        clear hr ht ho hcl
        obtain ⟨j, y, hj, rfl, rfl, hr, ht, ho⟩ := hrel
        by_cases hjl : j < len
        · obtain ⟨b, off, rfl, hcell⟩ : ∃ b off, a = some ⟨b, off, none⟩ ∧ ∀ i, i < bs.length → wr.cell? ⟨b, off + i, none⟩ = some (.int .u8 (bs.getD i 0)) := by
            rcases (HSRC.out.1.only ho.out HSRC.out.2).reads with h | h
            · have := HPS.out; subst h; simp at this; omega
            · exact h
          obtain ⟨x, hx⟩ : ∃ x, x = bs.getD j 0 := ⟨_, rfl⟩
          have h1 : j < bs.length := by rw [HPS.out]; exact hjl
          have hcx : wr.cell? ⟨b, off + j, none⟩ = some (.int .u8 x) := by rw [hx]; exact hcell j h1
          have hxr : Hid (0 ≤ x ∧ x < 256) := by
            rw [hx]
            exact HSRC.out.1.bytes _ (by simp [List.getD, List.getElem?_eq_getElem h1])
          have hrl : Hid (y < 4294967296) := by
            rw [hr.out]
            refine crcR_lt _ _ (fun z hz => ?_) (by decide)
            rcases List.mem_append.1 hz with hz | hz
            · exact flat_take_range HP.out k z hz
            · exact HSRC.out.1.bytes z (List.mem_of_mem_take hz)
          have HR2 : Hid (upd y x.toNat = crcR 4294967295 (flat (ps.take k) ++ bs.take (j + 1))) := by
            have e := hr.out
            unfold Hid
            rw [hx, e, crcR_append, crcR_append, crcR_snoc _ _ _ h1]
          have hi := index_bits y x hrl.out hxr.out
          have HU := Lib.hid (upd_bits y x hrl.out hxr.out)
          have HI8 : Hid (y / 16777216 ^^^ x.toNat < 256) := Nat.xor_lt_two_pow (n := 8) (by have := hrl.out; omega) (by have := hxr.out; omega)
          clear hcell hx h1
          go_wp2_with fail
          refine (shifted_any wr B _ HI8.out ht.out).mono ?_
          rintro e w2 ⟨rfl, ht2, ho2⟩
          have HT2 := Lib.hid ht2
          have HO2 := Lib.hid (ho.out.trans ho2)
          clear hi ht2 ho2 ht ho
          go_wp2_with fail
          go_roundw
          case rel => exact ⟨j + 1, _, by omega, by go_num, val_u32 HU.out, HR2, HT2, HO2⟩
          case measure => simp [intOf]; omega
        · obtain rfl : j = len := by omega
          have HR2 : Hid (y = crcR 4294967295 (flat (ps.take (k + 1)))) := by
            have e := hr.out
            rw [List.take_of_length_le (l := bs) (by rw [HPS.out]; exact Nat.le_refl _), ← HFL.out] at e
            exact e
          clear hr
          go_wp2_with fail
          go_roundw
          case rel => exact ⟨k + 1, y, by omega, by go_num, rfl, HR2, ht, ho⟩
          case measure => simp [intOf]; omega
    · obtain rfl : k = n := by omega
      have HF : Hid (r = crcR 4294967295 (flat ps)) := by
        have e := hr.out
        rw [List.take_of_length_le (by rw [HN.out]; exact Nat.le_refl _)] at e
        exact e
      have HRL : Hid (r < 4294967296) := by
        rw [HF.out]; exact crcR_lt _ _ (flat_range HP.out) (by decide)
      clear hr
      go_wp2_with fail
      go_ret
      refine ⟨ret_u32 ?_, ht.out, ho.out⟩
      unfold crcN
      rw [← HF.out]
      exact flip_bits r HRL.out

end Go.Proofs.Ytgiepkiogjkjjaa
