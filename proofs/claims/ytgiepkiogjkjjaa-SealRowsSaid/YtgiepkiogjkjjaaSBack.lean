/-
  The law SealBack: its walk.
-/
import Derived.Test.YtgiepkiogjkjjaaOpens
namespace Go.Proofs.Ytgiepkiogjkjjaa
open Go.RowKit

def clRow (bs : List Int) : List Int := if bs.length ≤ 1048576 then frame bs else []
def clCode (n : Nat) : Int := if n ≤ 1048576 then 0 else 2

theorem close_all (w : World) (a : Option Addr) (len cap : Nat) (bs : List Int) (h : Src w a len cap bs) (hnil : a = none → cap = 0) :
    Calls Try.prog 14 #[.slice a len cap] w fun e w' => ∃ v, e = .returned (.tuple #[v, .int .i64 (clCode len)]) ∧ Coded w w' v (clRow bs) := by
  have hs := h.size
  by_cases hl : len ≤ 1048576
  · refine (close_short w a len cap bs h hnil hl).mono ?_
    rintro e w' ⟨v, rfl, ⟨g, c, hv, ho⟩, hb⟩
    exact ⟨v, by rw [clCode, if_pos hl], by rw [clRow, if_pos (by omega)]; exact ⟨ho, hb⟩⟩
  · refine (close_long w a len cap (by omega)).mono ?_
    rintro e w' ⟨rfl, rfl⟩
    exact ⟨_, by rw [clCode, if_neg hl], by rw [clRow, if_neg (by omega)]; exact Coded.nil w⟩

theorem clRow_range {bs : List Int} (h : ∀ x ∈ bs, 0 ≤ x ∧ x < 256) : ∀ x ∈ clRow bs, 0 ≤ x ∧ x < 256 := by
  unfold clRow
  split
  · exact frame_range h
  · simp

theorem clRow_length (bs : List Int) : (clRow bs).length ≤ 1048600 := by
  unfold clRow
  split
  · rw [frame_length]
    have := enc_length bs.length (by omega)
    omega
  · simp

set_option maxHeartbeats 3200000 in
set_option maxRecDepth 20000 in
theorem sback_any (w : World) (a : Option Addr) (len cap : Nat) (bs : List Int) (b : Option Addr) (lb cb : Nat) (cs : List Int) (h : Src w a len cap bs) (hnil : a = none → cap = 0) (hb : Src w b lb cb cs) (hbn : b = none → cb = 0) :
    Calls Try.prog 6 #[.slice a len cap, .slice b lb cb] w fun e w' => e = .returned (.bool true) ∧ Below w.heap.size w w' := by
  by_cases h1 : 2097152 < len
  · have h1' : (2097152 : Int) < len := by omega
    go_enter Try.func6, Try.ntmps6
    go_wp2_with fail
    go_ret
    exact ⟨rfl, Below.refl _ _⟩
  by_cases h2 : 2097152 < lb
  · have h1' : ¬ (2097152 : Int) < len := by omega
    have h2' : (2097152 : Int) < lb := by omega
    go_enter Try.func6, Try.ntmps6
    go_wp2_with fail
    go_ret
    exact ⟨rfl, Below.refl _ _⟩
  have h1' : ¬ (2097152 : Int) < len := by omega
  have h2' : ¬ (2097152 : Int) < lb := by omega
  have H := Lib.hid h
  have HB := Lib.hid hb
  have HN := Lib.hid hnil
  have HBN := Lib.hid hbn
  have HCR := Lib.hid (clRow_range h.bytes)
  have hcl := clRow_length bs
  clear h hb hnil hbn
  go_enter Try.func6, Try.ntmps6
  go_wp2_with fail
  refine (close_all w a len cap bs H.out HN.out).mono ?_
  rintro e w1 ⟨v1, rfl, ho1, hb1⟩
  obtain ⟨a1, c1, rfl, hs1, hn1⟩ := row_src ho1 HCR.out (by omega)
  have HS1 := Lib.hid hs1
  have HN1 := Lib.hid hn1
  have HB1 := Lib.hid hb1
  clear ho1 hs1 hn1 hb1
  obtain ⟨xs, hxs⟩ : ∃ xs, xs = clRow bs := ⟨_, rfl⟩
  rw [← hxs] at HS1 HCR hcl ⊢
  have HXS := Lib.hid hxs
  clear hxs
  go_wp2_with (at_builtin; refine wpl_append_src rfl (.tmp 29) (.tmp 30) rfl w1.heap.size _ 0 [] rfl (ownsRow_empty w1) _ _ c1 _ (HS1.out.below ((Below.refl _ w1).alloc (Nat.le_refl _) _)) HN1.out rfl (by omega) (by simp) ?_)
  intro v5 w5 own5 gr5
  have HO5 := Lib.hid own5
  have HG5 := Lib.hid ((((Below.refl w1.heap.size w1).alloc (Nat.le_refl _) _).grown gr5 (by simp) (fun k h => ((ownsRow_empty w1).lt k h).1)))
  clear own5 gr5
  go_wp2_with (at_builtin; refine wpl_append_src rfl (.tmp 31) (.tmp 32) rfl w1.heap.size _ _ _ rfl HO5.out b lb cb cs (HB.out.below (HB1.out.trans (HG5.out.mono HB1.out.size))) HBN.out rfl (by omega) HG5.out.size ?_)
  intro v6 w6 own6 gr6
  have HG6 := Lib.hid (HG5.out.grown gr6 HG5.out.size (fun k h => (HO5.out.lt k h).1))
  obtain ⟨ao6, cp6, hv6, hsrc6, _⟩ := row_src (n := xs.length + lb) (xs := xs ++ cs) (by simpa using own6) (fun x hx => by
    rcases List.mem_append.1 hx with hx | hx
    · exact HCR.out x hx
    · exact HB.out.bytes x hx) (by omega)
  have HS6 := Lib.hid hsrc6
  have HB6 := Lib.hid (HB1.out.trans (HG6.out.mono HB1.out.size))
  clear own6 gr6 hsrc6 HO5 HG5 HG6 HB1
  subst hv6
  go_wp2_with fail
  refine (open_any w6 ao6 _ cp6 _ HS6.out).mono ?_
  rintro e w7 ⟨v7, rfl, ho7, hb7⟩
  have HB7 := Lib.hid (HB6.out.trans (hb7.mono HB6.out.size))
  have HO7 := Lib.hid ho7
  clear ho7 hb7 HB6 HS6
  have HT7 : Hid (len ≤ 1048576 → opF (xs ++ cs) = (bs, xs.length, 0) ∧ 5 ≤ xs.length) := by
    intro hl
    have e : xs = frame bs := by rw [HXS.out, clRow, if_pos (by rw [H.out.size]; exact hl)]
    rw [e]
    exact ⟨opF_back bs cs (by rw [H.out.size]; exact hl), frame_min bs⟩
  generalize opF (xs ++ cs) = T7 at *
  obtain ⟨a7, l7, c7, hv7⟩ := own_slice HO7.out
  subst hv7
  obtain ⟨cd, hcd⟩ : ∃ cd, cd = clCode len := ⟨_, rfl⟩
  rw [← hcd]
  have HCD := Lib.hid hcd
  clear hcd
  go_upto_region 5 with fail
  go_cut [68] (fun s wx => s = .bool false ∧ wx = w7)
  case first =>
    by_cases hl : len ≤ 1048576
    · obtain ⟨rfl, h5⟩ := HT7.out hl
      have hd : decide ((len : Int) ≤ 1048576) = true := decide_eq_true (by omega)
      have hcc : cd = 0 := HCD.out.trans (if_pos hl)
      subst hcc
      have s1 := ownsRow_string HO7.out
      have s2 := (H.out.below HB7.out).front len cap (Nat.le_refl _)
      have e2 : bs.take len = bs := by rw [← H.out.size]; simp
      rw [e2] at s2
      have s3 := str_self (strOfNums bs)
      have h5' : ¬ (xs.length : Int) < 5 := by omega
      clear e2
      go_wp2_with fail
      go_meet
      exact ⟨rfl, rfl⟩
    · have hd : decide ((len : Int) ≤ 1048576) = false := decide_eq_false (by omega)
      have hcc : cd = 2 := HCD.out.trans (if_neg hl)
      subst hcc
      go_wp2_with fail
      go_meet
      exact ⟨rfl, rfl⟩
  case rest =>
    obtain ⟨rfl, rfl⟩ := hcut
    clear HT7 HO7 HXS HCR hcl
    clear HCD
    go_wp2_with fail
    refine (open_any _ b lb cb cs (HB.out.below HB7.out)).mono ?_
    rintro e w8 ⟨v8, rfl, ho8, hb8⟩
    have HB8 := Lib.hid (HB7.out.trans (hb8.mono HB7.out.size))
    have HO8 := Lib.hid ho8
    clear ho8 hb8 HB7
    have HF := Lib.hid (fun h => opF_form HB.out.bytes h)
    generalize opF cs = T8 at *
    obtain ⟨rs, k, g⟩ := T8
    simp only at HF HO8 ⊢
    by_cases hg : g = 0
    · subst hg
      have hk := (HF.out rfl).2.2.1
      rw [HB.out.size] at hk
      have hrl := (HF.out rfl).2.1
      have hk5 : 5 ≤ k := by rw [(HF.out rfl).2.2.2]; exact frame_min rs
      have HK := Lib.hid (HF.out rfl).1
      have HRR : Hid (∀ x ∈ rs, 0 ≤ x ∧ x < 256) := by
        intro x hx
        refine HB.out.bytes x (List.mem_of_mem_take (i := k) ?_)
        rw [HK.out]
        simp only [frame, List.mem_append]
        exact .inl (.inr hx)
      obtain ⟨a8, c8, rfl, hs8, hn8⟩ := row_src HO8.out HRR.out (by omega)
      have HS8 := Lib.hid hs8
      have HN8 := Lib.hid hn8
      clear hs8 hn8 HF HO8
      go_wp2_with fail
      refine (close_short w8 a8 _ c8 rs HS8.out HN8.out hrl).mono ?_
      rintro e w9 ⟨v9, rfl, ⟨g9, c9, rfl, ho9⟩, hb9⟩
      have HB9 := Lib.hid (HB8.out.trans (hb9.mono HB8.out.size))
      obtain ⟨bb, bo, rfl⟩ : ∃ bb bo, b = some ⟨bb, bo, none⟩ := by
        rcases HB.out.reads with h | ⟨bb, bo, hb, _⟩
        · have := HB.out.size; subst h; simp at this; omega
        · exact ⟨bb, bo, hb⟩
      have s1 : ∀ n, (convert 22 9 (.slice (some ⟨g9, 0, none⟩) (frame rs).length c9)).run Try.prog (w9.drewN n) = .ok (.string (strOfNums (frame rs))) (w9.drewN n) := fun n => ownsRow_string (w := w9.drewN n) ho9
      have s2 : ∀ n, (convert 22 9 (.slice (some ⟨bb, bo, none⟩) k cb)).run Try.prog (w9.drewN n) = .ok (.string (strOfNums (frame rs))) (w9.drewN n) := fun n => by
        have e := ((HB.out.below HB9.out).heap (w' := w9.drewN n) rfl).front k cb hk
        rw [HK.out] at e
        exact e
      have s3 := str_self (strOfNums (frame rs))
      have hcap := HB.out.caps.1
      have k1 : (0 : Int) ≤ k := by omega
      have k2 : (k : Int) ≤ cb := by omega
      have k3 : (5 : Int) ≤ k := by omega
      have k4 : (k : Int) ≤ lb := by omega
      clear ho9 hb9
      go_wp2_with fail
      go_quiet (fail)
      go_wp2_with fail
      go_ret
      exact ⟨rfl, below_drawn HB9.out _⟩
    · have hgg : (g != 0) = true := by rw [bne_iff_ne]; exact hg
      clear hg HF HO8
      go_wp2_with fail
      go_ret
      exact ⟨rfl, HB8.out⟩

theorem sback_walk (a0 : Option Addr) (len0 cap0 : Nat) (z0 : List Int) (a1 : Option Addr) (len1 cap1 : Nat) (z1 : List Int) (w : World) (w0 : IsRow .u8 w a0 len0 cap0 z0) (s0 : cap0 * 1 ≤ 140737488351232) (w1 : IsRow .u8 w a1 len1 cap1 z1) (s1 : cap1 * 1 ≤ 140737488351232) :
    Calls Try.prog 6 #[.slice a0 len0 cap0, .slice a1 len1 cap1] w fun e w' => e = .returned (.bool true) ∧ Below w.heap.size w w' :=
  sback_any w a0 len0 cap0 (z0.take len0) a1 len1 cap1 (z1.take len1) (src_of_row w0 s0) (nil_of_row w0) (src_of_row w1 s1) (nil_of_row w1)

end Go.Proofs.Ytgiepkiogjkjjaa
