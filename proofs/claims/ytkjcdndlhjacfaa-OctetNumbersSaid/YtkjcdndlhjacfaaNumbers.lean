/-
  The law OctetNumbers: its walk.
-/
import Derived.Test.YtkjcdndlhjacfaaHeld
namespace Go.Proofs.Ytkjcdndlhjacfaa
open Go.RowKit

set_option maxHeartbeats 1600000 in
set_option maxRecDepth 20000 in
theorem numbers_any (n : Int) (w : World) (a : Option Addr) (len cap : Nat) (bs : List Int) (hn0 : -9223372036854775808 ≤ n) (hn : n ≤ 9223372036854775807) (h : Src w a len cap bs) (hc : len ≤ 140737488351232) :
    Calls Try.prog 4 #[.int .i64 n, .slice a len cap] w fun e w' => e = .returned (.bool true) ∧ Below w.heap.size w w' := by
  have H := Lib.hid h
  have HL := Lib.hid (lent_any w a len cap bs h hc)
  have HN := Lib.hid (And.intro hn0 hn)
  clear h hn hn0
  go_enter Try.func4, Try.ntmps4
  go_wp2_with fail
  refine HL.out.mono ?_
  rintro e w1 ⟨rfl, hbk, hb1⟩
  have HBK1 := Lib.hid hbk
  have HB1 := Lib.hid hb1
  clear hbk hb1
  go_wp2_with fail
  refine (int_any n w1 HN.out.1 HN.out.2).mono ?_
  rintro e w2 ⟨va, rfl, ⟨ga, ca, hva, ho2⟩, hb2⟩
  have HO2 := Lib.hid ho2
  have HB2 := Lib.hid (HB1.out.trans (hb2.mono HB1.out.size))
  have HBK2 := Lib.hid (HBK1.out.below hb2 HBK1.out.lt)
  clear ho2 hb2
  subst hva
  have hsrc2 : Hid (Src w2 (some ⟨w.heap.size, 0, none⟩) len (len + 1) bs) := by
    have hs := H.out.size
    have := HBK2.out.src len (by simp; omega) (by simp; omega) (fun x hx => by
      rcases List.mem_append.1 hx with hx | hx
      · exact H.out.bytes x hx
      · rw [List.mem_singleton] at hx; subst hx; exact ⟨by decide, by decide⟩)
    have e1 : (bs ++ [77]).take len = bs := by rw [← hs]; simp
    have e2 : (bs ++ [77]).length = len + 1 := by simp [hs]
    rw [e1, e2] at this
    exact this
  go_wp2_with fail
  refine (takeInt_any w2 _ len (len + 1) bs hsrc2.out).mono ?_
  rintro e w3 ⟨rfl, hb3⟩
  have HB3 := Lib.hid (HB2.out.trans (hb3.mono HB2.out.size))
  have HBK3 := Lib.hid (HBK2.out.below hb3 HBK2.out.lt)
  have HO3 := Lib.hid (ownsRow_below HO2.out hb3 (fun k h => (HO2.out.lt k h).2))
  clear hb3 hsrc2
  go_wp2_with fail
  refine (rtakeInt_any w3 a len cap bs (H.out.below HB3.out)).mono ?_
  rintro e w4 ⟨rfl, rfl⟩
  go_wp2_with fail
  refine (kept_any w3 _ a len cap bs (H.out.below HB3.out) HBK3.out).mono ?_
  rintro e w4 ⟨rfl, rfl⟩
  have hnn : (enc (fo n)).length ≤ 10 := enc_length (fo n) (by have := fo_lt n HN.out.1 HN.out.2; omega)
  obtain ⟨L, hL⟩ : ∃ L, L = (enc (fo n)).length := ⟨_, rfl⟩
  have s3 := str_self (strOfNums (enc (fo n)))
  go_upto_region 6 with fail
  go_cut [14] (fun s wx => s = .bool true ∧ Hid (wx.ownsRow w1.heap.size 5 1 (.slice (some ⟨ga, 0, none⟩) (enc (fo n)).length ca) (enc (fo n)).length ((enc (fo n)).map (Value.int .u8)) ∧ BlockIs wx w.heap.size (bs ++ [77]) ∧ Below w.heap.size w wx))
  case first =>
    clear hL
    have SOf : Hid (∀ W, Below w3.heap.size w3 W → (convert 22 9 (.slice (some ⟨ga, 0, none⟩) (enc (fo n)).length ca)).run Try.prog W = .ok (.string (strOfNums (enc (fo n)))) W) := by
      intro W hW
      exact ownsRow_string (ownsRow_below HO3.out hW (fun k h => (HO3.out.lt k h).2))
    refine wp_region_held_drew (S := fun W => (convert 22 9 (.slice (some ⟨ga, 0, none⟩) (enc (fo n)).length ca)).run Try.prog W = .ok (.string (strOfNums (enc (fo n)))) W ∧ Hid (Below w3.heap.size w3 W)) (by kernel_rfl) ?_ (fun hHeld => ?_)
    · exact ⟨SOf.out _ (Below.refl _ w3).drew, (Below.refl _ w3).drew⟩
    refine wpAnyH_take (i := 0) (v := ?_) rfl (by kernel_rfl) (by kernel_rfl) (by kernel_rfl) (fun _ _ _ h => h) (Or.inl ⟨by rfl, ?_⟩) (by assumption) ?_
    rotate_left
    · intro W hSw
      obtain ⟨hS1, hS2⟩ := hSw
      go_simp
      first | done | with_reducible rfl
    rotate_left
    simp only [Act.put, List.setIfInBounds_toArray]
    refine wpAnyH_take (i := 1) (v := ?_) rfl (by kernel_rfl) (by kernel_rfl) (by kernel_rfl) (fun _ _ _ h => h) (Or.inl ⟨by rfl, ?_⟩) (by assumption) ?_
    rotate_left
    · intro W hSw
      obtain ⟨hS1, hS2⟩ := hSw
      go_simp
      first | done | with_reducible rfl
    rotate_left
    simp only [Act.put]
    refine wpAnyH_take (i := 2) (v := ?_) rfl (by kernel_rfl) (by kernel_rfl) (by kernel_rfl) (fun _ _ _ h => h) (Or.inl ⟨by rfl, ?_⟩) (by assumption) ?_
    rotate_left
    · intro W hSw
      obtain ⟨hS1, hS2⟩ := hSw
      go_simp
      first | done | with_reducible rfl
    rotate_left
    simp only [Act.put]
    refine wpAnyH_ready (rs := [3]) (by kernel_rfl) (by simp) ?_
    refine AllReadyH.cons (o := _) rfl (fun K hK => ?_) AllReadyH.nil
    go_simp
    refine (rint_any n w3.drew HN.out.1 HN.out.2).mono ?_
    rintro e w4 ⟨_, rfl, ⟨gb, cb, rfl, ho4⟩, hb4⟩
    have hb4' : Below w3.heap.size w3 w4 := (Below.refl _ w3).drew.trans hb4
    have SO4 : Hid (∀ W, Below w4.heap.size w4 W → (convert 22 9 (.slice (some ⟨gb, 0, none⟩) (enc (fo n)).length cb)).run Try.prog W = .ok (.string (strOfNums (enc (fo n)))) W) := by
      intro W hW
      exact ownsRow_string (ownsRow_below ho4 hW (fun k h => (ho4.lt k h).2))
    refine hK.out _ w4 ⟨SOf.out _ hb4', hb4'⟩ (fun _ => ?_)
    refine held_strong (S2 := fun W => (convert 22 9 (.slice (some ⟨gb, 0, none⟩) (enc (fo n)).length cb)).run Try.prog W = .ok (.string (strOfNums (enc (fo n)))) W ∧ (convert 22 9 (.slice (some ⟨ga, 0, none⟩) (enc (fo n)).length ca)).run Try.prog W = .ok (.string (strOfNums (enc (fo n)))) W ∧ Hid (Below w3.heap.size w3 W)) (fun _ h => h.2) _ _ _ _ ?_
    have hH4 := And.intro (SO4.out _ (Below.refl _ w4)) (And.intro (SOf.out _ hb4') (Lib.hid hb4'))
    refine wpAnyH_take (i := 4) (v := ?_) rfl (by kernel_rfl) (by kernel_rfl) (by kernel_rfl) (fun _ _ _ h => h) (Or.inl ⟨by rfl, ?_⟩) (by assumption) ?_
    rotate_left
    · intro W hSw
      obtain ⟨hS1, hS2, hS3⟩ := hSw
      go_simp
      first | done | with_reducible rfl
    rotate_left
    simp only [Act.put]
    refine wpAnyH_take (i := 5) (v := ?_) rfl (by kernel_rfl) (by kernel_rfl) (by kernel_rfl) (fun _ _ _ h => h) (Or.inl ⟨by rfl, ?_⟩) (by assumption) ?_
    rotate_left
    · intro W hSw
      obtain ⟨hS1, hS2, hS3⟩ := hSw
      go_simp
      first | done | with_reducible rfl
    rotate_left
    simp only [Act.put]
    refine wpAnyH_take (i := 6) (v := ?_) rfl (by kernel_rfl) (by kernel_rfl) (by kernel_rfl) (fun _ _ _ h => h) (Or.inl ⟨by rfl, ?_⟩) (by assumption) ?_
    rotate_left
    · intro W hSw
      obtain ⟨hS1, hS2, hS3⟩ := hSw
      go_simp
      first | done | with_reducible rfl
    rotate_left
    refine wpAnyH_done (by kernel_rfl) ?_ _
    go_simp
    go_wp2_with fail
    go_meet
    have hbt : Below w3.heap.size w3 w4 := hb4'
    refine ⟨rfl, Lib.hid (ownsRow_below HO3.out hbt (fun k h => (HO3.out.lt k h).2)), HBK3.out.below hbt HBK3.out.lt, HB3.out.trans (hbt.mono HB3.out.size)⟩
  case rest =>
    obtain ⟨rfl, ho5, HBK5, HB5⟩ := hcut
    have HO5 := Lib.hid ho5
    clear ho5
    clear HB2 HBK2 HO2 HB3 HBK3 HO3 s3 hL
    obtain ⟨g0, c0, hob, hga, hca⟩ := ownB_of HO5.out
    have hR := rows2 (n := len) (L := len + 1) (ga := g0) (ca := c0) (B := w.heap.size) HBK5 (by simp [H.out.size]) (by omega) (by have := H.out.caps; omega) (Nat.le_refl _) hob
      (fun hne => ⟨by have := (hga hne).1; have := HB1.out.size; omega, (hga hne).2, by have := (hga hne).1; have := HBK1.out.lt; omega⟩) (by unfold maxLen at hca; omega)
    have HR := Lib.hid hR
    have HBR := Lib.hid (HB5.alloc HB5.size (.cells #[.slice (some ⟨ga, 0, none⟩) (enc (fo n)).length ca, .slice (some ⟨w.heap.size, 0, none⟩) len (len + 1)] 22))
    clear hR hob hga hca HO5 HBK1 HB1 HBK5 HB5
    go_wp2_with fail
    refine (owned_any _ w.heap.size _ 2 2 _ _ _ HR.out (by omega)).mono ?_
    rintro e w6 ⟨rfl, hb6, -⟩
    have HB6 := Lib.hid (HBR.out.trans hb6)
    clear hb6
    go_wp2_with fail
    refine (int_any (-1) w6 (by decide) (by decide)).mono ?_
    rintro e w7 ⟨v7, rfl, ⟨g7, c7, rfl, ho7⟩, hb7⟩
    have s7 := ownsRow_string ho7
    rw [show strOfNums (enc (fo (-1))) = { data := #[1] } from rfl] at s7
    have HB7 := Lib.hid (HB6.out.trans (hb7.mono HB6.out.size))
    clear ho7 hb7
    go_wp2_with fail
    go_ret
    exact ⟨by simp, HB7.out⟩

theorem numbers_walk (a0 : Int) (a1 : Option Addr) (len1 cap1 : Nat) (z1 : List Int) (w : World) (w0 : (Lit.int .i64 a0).wf = true) (w1 : IsRow .u8 w a1 len1 cap1 z1) (s1 : cap1 * 1 ≤ 140737488351232) :
    Calls Try.prog 4 #[.int .i64 a0, .slice a1 len1 cap1] w fun e w' => e = .returned (.bool true) ∧ Below w.heap.size w w' := by
  have hl : len1 ≤ cap1 := by rcases w1 with ⟨_, h, _⟩ | ⟨_, _, h, _⟩ <;> omega
  exact numbers_any a0 w a1 len1 cap1 (z1.take len1) (int_range w0).1 (int_range w0).2 (src_of_row w1 s1) (by omega)

end Go.Proofs.Ytkjcdndlhjacfaa
