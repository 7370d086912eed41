/-
  The law OctetTexts: its walk.
-/
import Derived.Test.YtkjcdndlhjacfaaCounts
import Derived.Test.YtkjcdndlhjacfaaRefX
namespace Go.Proofs.Ytkjcdndlhjacfaa
open Go.RowKit

def txCode (s : ByteArray) : Int := if s.size ≤ 65535 then 0 else 2
def txRow (s : ByteArray) : List Int := if s.size ≤ 65535 then enc s.size ++ sb s else []

theorem text_all (s : ByteArray) (w : World) :
    Calls Try.prog 21 #[.string s] w fun e w' => ∃ v, e = .returned (.tuple #[v, .int .i64 (txCode s)]) ∧ Coded w w' v (txRow s) := by
  by_cases hn : s.size ≤ 65535
  · refine (text_short s w hn).mono ?_
    rintro e w' ⟨v, rfl, ⟨g, c, hv, ho⟩, hb⟩
    exact ⟨_, by rw [txCode, if_pos hn], by rw [txRow, if_pos hn]; exact ⟨ho, hb⟩⟩
  · refine (text_long s w (by omega)).mono ?_
    rintro e w' ⟨rfl, rfl⟩
    exact ⟨_, by rw [txCode, if_neg hn], by rw [txRow, if_neg hn]; exact Coded.nil w⟩

theorem rtext_all (s : ByteArray) (w : World) :
    Calls Try.prog 23 #[.string s] w fun e w' => ∃ v, e = .returned (.tuple #[v, .int .i64 (txCode s)]) ∧ Coded w w' v (txRow s) := by
  by_cases hn : s.size ≤ 65535
  · refine (rtext_short s w hn).mono ?_
    rintro e w' ⟨v, rfl, ⟨g, c, hv, ho⟩, hb⟩
    exact ⟨_, by rw [txCode, if_pos hn], by rw [txRow, if_pos hn]; exact ⟨ho, hb⟩⟩
  · refine (rtext_long s w (by omega)).mono ?_
    rintro e w' ⟨rfl, rfl⟩
    exact ⟨_, by rw [txCode, if_neg hn], by rw [txRow, if_neg hn]; exact Coded.nil w⟩

set_option maxHeartbeats 1600000 in
set_option maxRecDepth 20000 in
theorem texts_any (s : ByteArray) (w : World) (a : Option Addr) (len cap : Nat) (bs : List Int) (h : Src w a len cap bs) (hc : len ≤ 140737488351232) :
    Calls Try.prog 5 #[.string s, .slice a len cap] w fun e w' => e = .returned (.bool true) ∧ Below w.heap.size w w' := by
  have H := Lib.hid h
  have HL := Lib.hid (lent_any w a len cap bs h hc)
  clear h
  go_enter Try.func5, Try.ntmps5
  go_wp2_with fail
  refine HL.out.mono ?_
  rintro e w1 ⟨rfl, hbk, hb1⟩
  have HBK1 := Lib.hid hbk
  have HB1 := Lib.hid hb1
  clear hbk hb1
  go_wp2_with fail
  refine (text_all s w1).mono ?_
  rintro e w2 ⟨va, rfl, ho2, hb2⟩
  have HO2 := Lib.hid ho2
  have HB2 := Lib.hid (HB1.out.trans (hb2.mono HB1.out.size))
  have HBK2 := Lib.hid (HBK1.out.below hb2 HBK1.out.lt)
  clear ho2 hb2
  have hsrc2 : Hid (Src w2 (some ⟨w.heap.size, 0, none⟩) len (len + 1) bs) := by
    have hs := H.out.size
    have := HBK2.out.src len (by simp; omega) (by simp; omega) (fun x hx => by
      rcases List.mem_append.1 hx with hx | hx
      · exact H.out.bytes x hx
      · rw [List.mem_singleton] at hx; subst hx; exact ⟨by decide, by decide⟩)
    have e1 : (bs ++ [77]).take len = bs := by rw [← hs]; simp
    have e2 : (bs ++ [77]).length = len + 1 := by simp [hs]
    rw [e1, e2] at this
    exact this
  go_wp2_with fail
  refine (takeText_any w2 _ len (len + 1) bs hsrc2.out).mono ?_
  rintro e w3 ⟨rfl, hb3⟩
  have HB3 := Lib.hid (HB2.out.trans (hb3.mono HB2.out.size))
  have HBK3 := Lib.hid (HBK2.out.below hb3 HBK2.out.lt)
  have HO3 := Lib.hid (ownsRow_below HO2.out hb3 (fun k h => (HO2.out.lt k h).2))
  clear hb3 hsrc2
  go_wp2_with fail
  refine (rtext_all s w3).mono ?_
  rintro e w4 ⟨vb, rfl, ho4, hb4⟩
  have HO4 := Lib.hid ho4
  have HB4 := Lib.hid (HB3.out.trans (hb4.mono HB3.out.size))
  have HBK4 := Lib.hid (HBK3.out.below hb4 HBK3.out.lt)
  have HO5 := Lib.hid (ownsRow_below HO3.out hb4 (fun k h => (HO3.out.lt k h).2))
  clear ho4 hb4
  go_wp2_with fail
  refine (rtakeText_any w4 a len cap bs (H.out.below HB4.out)).mono ?_
  rintro e w5 ⟨rfl, rfl⟩
  go_wp2_with fail
  refine (kept_any w4 _ a len cap bs (H.out.below HB4.out) HBK4.out).mono ?_
  rintro e w5 ⟨rfl, rfl⟩
  have s1 := ownsRow_string HO5.out
  have s2 := ownsRow_string HO4.out
  have s3 := str_self (strOfNums (txRow s))
  obtain ⟨ga, ca, hob, hga, hca⟩ := ownB_of HO5.out
  obtain ⟨ao, la, ca2, hva⟩ := own_slice HO5.out
  have hR := rows2 (n := len) (L := len + 1) (ga := ga) (ca := ca) (B := w.heap.size) HBK4.out (by simp [H.out.size]) (by omega) (by omega) (Nat.le_refl _) hob
    (fun hne => ⟨by have := (hga hne).1; have := HB1.out.size; omega, (hga hne).2, by have := (hga hne).1; have := HBK1.out.lt; omega⟩) (by unfold maxLen at hca; omega)
  subst hva
  have HR := Lib.hid hR
  have HBR := Lib.hid (HB4.out.alloc HB4.out.size (.cells #[.slice ao la ca2, .slice (some ⟨w.heap.size, 0, none⟩) len (len + 1)] 22))
  clear hR hob hga hca HO5 HO4 HO3 HO2 HBK2 HBK3 HBK4 HBK1 HB1 HB2 HB3
  go_wp2_with fail
  refine (owned_any _ w.heap.size _ 2 2 _ _ _ HR.out (by omega)).mono ?_
  rintro e w6 ⟨rfl, hb6, -⟩
  have HB6 := Lib.hid (HBR.out.trans hb6)
  clear hb6 s1 s2
  go_wp2_with fail
  refine (text_short ⟨#[97]⟩ w6 (by decide)).mono ?_
  rintro e w7 ⟨v7, rfl, ⟨g7, c7, hv7, ho7⟩, hb7⟩
  have s7 := ownsRow_string ho7
  rw [show strOfNums (enc (⟨#[97]⟩ : ByteArray).size ++ sb ⟨#[97]⟩) = { data := #[1, 97] } from rfl] at s7
  rw [show (enc (⟨#[97]⟩ : ByteArray).size ++ sb ⟨#[97]⟩).length = 2 from rfl] at hv7
  rw [hv7] at s7
  subst hv7
  have HB7 := Lib.hid (HB6.out.trans (hb7.mono HB6.out.size))
  clear ho7 hb7
  go_wp2_with fail
  go_ret
  exact ⟨by simp, HB7.out⟩

theorem texts_walk (a0 : ByteArray) (a1 : Option Addr) (len1 cap1 : Nat) (z1 : List Int) (w : World) (_w0 : a0.size ≤ maxLen) (_s0 : a0.size ≤ 140737488351232) (w1 : IsRow .u8 w a1 len1 cap1 z1) (s1 : cap1 * 1 ≤ 140737488351232) :
    Calls Try.prog 5 #[.string a0, .slice a1 len1 cap1] w fun e w' => e = .returned (.bool true) ∧ Below w.heap.size w w' := by
  have hl : len1 ≤ cap1 := by rcases w1 with ⟨_, h, _⟩ | ⟨_, _, h, _⟩ <;> omega
  exact texts_any a0 w a1 len1 cap1 (z1.take len1) (src_of_row w1 s1) (by omega)

end Go.Proofs.Ytkjcdndlhjacfaa
