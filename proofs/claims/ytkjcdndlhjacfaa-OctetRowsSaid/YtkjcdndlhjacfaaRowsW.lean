/-
  The law OctetRows: its walk.
-/
import Derived.Test.YtkjcdndlhjacfaaRows0
namespace Go.Proofs.Ytkjcdndlhjacfaa
open Go.RowKit

theorem two_ints (w : World) : ReadsI (w.alloc (.cells #[.int .i64 1, .int .i64 (-1)] 3)) (some ⟨w.heap.size, 0, none⟩) [1, -1] := by
  refine .inr ⟨w.heap.size, 0, rfl, fun i hi => ?_⟩
  rw [Nat.zero_add, cell_of_row _ w.heap.size i _ _ _ (heap_alloc_new w _)]
  match i, hi with
  | 0, _ => rfl
  | 1, _ => rfl

set_option maxHeartbeats 3200000 in
set_option maxRecDepth 20000 in
theorem rows_any (la : Option Addr) (ll lc : Nat) (ns : List Int) (a : Option Addr) (len cap : Nat) (bs : List Int) (w : World)
    (hl : ReadsI w la ns) (hll : ns.length = ll) (hls : ll * 8 ≤ 140737488351232) (hns : ∀ x ∈ ns, -9223372036854775808 ≤ x ∧ x ≤ 9223372036854775807) (hnil : la = none → lc = 0)
    (h : Src w a len cap bs) (hc : len ≤ 140737488351232) :
    Calls Try.prog 6 #[.slice la ll lc, .slice a len cap] w fun e w' => e = .returned (.bool true) ∧ Below w.heap.size w w' := by
  have H := Lib.hid h
  have HL := Lib.hid (lent_any w a len cap bs h hc)
  have HR := Lib.hid hl
  have HLL := Lib.hid hll
  have HNS := Lib.hid hns
  clear h hl hll hns
  go_enter Try.func6, Try.ntmps6
  go_wp2_with fail
  refine HL.out.mono ?_
  rintro e w1 ⟨rfl, hbk, hb1⟩
  have HBK1 := Lib.hid hbk
  have HB1 := Lib.hid hb1
  clear hbk hb1
  go_wp2_with (at_builtin; refine wpl_append_int rfl (.tmp 24) (.tmp 25) rfl w1.heap.size _ 0 [] rfl (ownsI_empty w1) la ll lc ns ((HR.out.below HB1.out).below ((Below.refl w1.heap.size w1).alloc (Nat.le_refl _) _)) HLL.out hnil rfl (by omega) (by simp) ?_)
  intro vm w2 ownm gr2 hne2
  have HNE := Lib.hid (show vm ≠ .slice none 0 0 from hne2)
  have HM2 : Hid (w2.ownsRow w1.heap.size 3 1 vm ll (ns.map (Value.int .i64))) := by
    unfold Hid
    simpa using ownm
  have HB12 := Lib.hid (((Below.refl w1.heap.size w1).alloc (Nat.le_refl _) (.cells #[] 3)).grown gr2 (by simp) (fun k h => ((ownsI_empty w1).lt k h).1))
  have HB2 := Lib.hid (HB1.out.trans (HB12.out.mono HB1.out.size))
  have HBK2 := Lib.hid (HBK1.out.below HB12.out HBK1.out.lt)
  clear ownm gr2 hne2
  obtain ⟨gm, cm, hvm, hgm1, hgm2, hcm1, hcm2, hmid0⟩ := ownI_mid HM2.out HNE.out
  have HVM := Lib.hid hvm
  obtain ⟨ao, cp, hvm2, hrm, hlm, hnn⟩ := rowI_reads HM2.out
  have HRM : Hid (ReadsI w2 (some ⟨gm, 0, none⟩) ns) := by
    rw [hvm] at hvm2
    simp only [Value.slice.injEq] at hvm2
    rw [hvm2.1]; exact hrm
  clear hvm2 hrm hlm hnn HNE
  have HMID := Lib.hid hmid0
  clear hmid0
  subst hvm
  go_wp2_with fail
  refine (ints_all _ ll cm ns w2 HLL.out HRM.out HNS.out).mono ?_
  rintro e w3 ⟨va, rfl, ho3, hb3⟩
  have HO3 := Lib.hid ho3
  have HB3 := Lib.hid (HB2.out.trans (hb3.mono HB2.out.size))
  have HB23 := Lib.hid hb3
  have HBK3 := Lib.hid (HBK2.out.below hb3 HBK2.out.lt)
  clear ho3 hb3
  have hsrc3 : Hid (Src w3 (some ⟨w.heap.size, 0, none⟩) len (len + 1) bs) := by
    have hs := H.out.size
    have := HBK3.out.src len (by simp; omega) (by simp; omega) (fun x hx => by
      rcases List.mem_append.1 hx with hx | hx
      · exact H.out.bytes x hx
      · rw [List.mem_singleton] at hx; subst hx; exact ⟨by decide, by decide⟩)
    have e1 : (bs ++ [77]).take len = bs := by rw [← hs]; simp
    have e2 : (bs ++ [77]).length = len + 1 := by simp [hs]
    rw [e1, e2] at this
    exact this
  go_wp2_with fail
  refine (takeInts_any w3 _ len (len + 1) bs hsrc3.out).mono ?_
  rintro e w4 ⟨vv, rfl, hlist, hb4⟩
  have HLI := Lib.hid hlist
  have HB34 := Lib.hid hb4
  have HB4 := Lib.hid (HB3.out.trans (hb4.mono HB3.out.size))
  have HBK4 := Lib.hid (HBK3.out.below hb4 HBK3.out.lt)
  have HO4 := Lib.hid (ownsRow_below HO3.out hb4 (fun k h => (HO3.out.lt k h).2))
  clear hlist hb4 hsrc3
  go_wp2_with fail
  refine (rints_all la ll lc ns w4 HLL.out (HR.out.below HB4.out) HNS.out).mono ?_
  rintro e w5 ⟨vb, rfl, ho5, hb5⟩
  have HW5 := Lib.hid ho5
  have HB45 := Lib.hid hb5
  have HB5 := Lib.hid (HB4.out.trans (hb5.mono HB4.out.size))
  have HBK5 := Lib.hid (HBK4.out.below hb5 HBK4.out.lt)
  have HO5 := Lib.hid (ownsRow_below HO4.out hb5 (fun k h => (HO4.out.lt k h).2))
  clear ho5 hb5 HO4
  go_wp2_with fail
  refine (rtakeInts_any w5 a len cap bs (H.out.below HB5.out)).mono ?_
  rintro e w6 ⟨vu, nu, rfl, hou, hb6⟩
  have HU6 := Lib.hid hou
  have HB6 := Lib.hid (HB5.out.trans (hb6.mono HB5.out.size))
  have HBK6 := Lib.hid (HBK5.out.below hb6 HBK5.out.lt)
  have HO6 := Lib.hid (ownsRow_below HO5.out hb6 (fun k h => (HO5.out.lt k h).2))
  have HW6 := Lib.hid (ownsRow_below HW5.out hb6 (fun k h => (HW5.out.lt k h).2))
  have HB26 := Lib.hid (HB23.out.trans ((HB34.out.trans ((HB45.out.trans (hb6.mono HB45.out.size)).mono HB34.out.size)).mono HB23.out.size))
  have HB46 := Lib.hid (HB45.out.trans (hb6.mono HB45.out.size))
  clear hou hb6 HO5 HW5
  go_wp2_with fail
  refine (kept_any w6 _ a len cap bs (H.out.below HB6.out) HBK6.out).mono ?_
  rintro e w7 ⟨rfl, rfl⟩
  go_wp2_with fail
  refine (same_any w6 _ la ll cm ll lc ns ns (HRM.out.below HB26.out) (HR.out.below HB6.out) HLL.out HLL.out (by omega)).mono ?_
  rintro e w7 ⟨rfl, n1, rfl⟩
  have hd1 : decide (ns = ns) = true := decide_eq_true rfl
  obtain ⟨aoV, lV, cV, hvV, hrV, hlV⟩ := HLI.out.reads (liF_bad _)
  obtain ⟨aoU, cU, hvU, hrU, hlU, hnU⟩ := rowI_reads HU6.out
  have HOWN := Lib.hid HLI.out.own
  have htold := liF_len bs
  have HRV := Lib.hid (hrV.below HB46.out)
  have HRU := Lib.hid hrU
  have HLV := Lib.hid hlV
  have HLU := Lib.hid hlU
  have HLT := Lib.hid htold
  clear hrV hrU hlV hlU hnU htold HLI HU6
  subst hvV
  subst hvU
  go_wp2_with fail
  refine (same_any (w6.drewN n1) aoV aoU lV cV nu cU (liF 0 bs).1 (liF 0 bs).1 HRV.out HRU.out HLV.out HLU.out (by have := HLV.out; have := HLT.out; omega)).mono ?_
  rintro e w7 ⟨rfl, n2, rfl⟩
  have hd2 : decide ((liF 0 bs).1 = (liF 0 bs).1) = true := decide_eq_true rfl
  obtain ⟨W, hW⟩ : ∃ W : World, W = (w6.drewN n1).drewN n2 := ⟨_, rfl⟩
  have HOW : Hid (W.ownsRow w2.heap.size 5 1 va (rwRow ns).length ((rwRow ns).map (Value.int .u8))) := by rw [hW]; exact HO6.out
  have HWW : Hid (W.ownsRow w4.heap.size 5 1 vb (rwRow ns).length ((rwRow ns).map (Value.int .u8))) := by rw [hW]; exact HW6.out
  have HBKW : Hid (BlockIs W w.heap.size (bs ++ [77])) := by rw [hW]; exact HBK6.out
  have HBW : Hid (Below w.heap.size w W) := by rw [hW]; exact below_drawn (below_drawn HB6.out n1) n2
  have HB2W : Hid (Below w2.heap.size w2 W) := by rw [hW]; exact below_drawn (below_drawn HB26.out n1) n2
  have HB4W : Hid (Below w4.heap.size w4 W) := by rw [hW]; exact below_drawn (below_drawn HB46.out n1) n2
  have HSZ : Hid (w1.heap.size ≤ w2.heap.size ∧ w2.heap.size ≤ w3.heap.size ∧ w3.heap.size ≤ w4.heap.size ∧ w4.heap.size ≤ W.heap.size ∧ w.heap.size < w1.heap.size) :=
    ⟨HB12.out.size, HB23.out.size, HB34.out.size, HB4W.out.size, HBK1.out.lt⟩
  have HA3 : Hid (∀ k, va.ownBlock = some k → w2.heap.size ≤ k ∧ k < w3.heap.size) := fun k h => HO3.out.lt k h
  have HMIDW : Hid (∀ x, MidI W gm cm 0 x) := fun x => (HMID.out x).other (HB2W.out.block gm hgm2)
  have HOWNW : Hid (.slice aoV lV cV = Value.slice none 0 0 ∨ ∃ ga na ca, Value.slice aoV lV cV = .slice (some ⟨ga, 0, none⟩) na ca ∧ na ≤ ca ∧ ca ≤ 9223372036854775807 ∧ w3.heap.size < ga ∧ ga < w4.heap.size ∧ ∀ x, MidI W ga ca 0 x) := by
    rcases HOWN.out with h | ⟨ga, na, ca, h1, h2, h3, h4, h5, h6⟩
    · exact .inl h
    · exact .inr ⟨ga, na, ca, h1, h2, h3, by omega, h5, fun x => (h6 x).other (HB4W.out.block ga h5)⟩
  rw [← hW]
  clear hW HO6 HW6 HBK6 HB6 HB26 HB46 HB2W HB4W HMID HOWN HO3 HRV HRU HLV HLU HLT HB2 HB3 HB4 HB5 HB23 HB34 HB45 HB12 HBK2 HBK3 HBK4 HBK5 HRM HM2
  have s1 := ownsRow_string HOW.out
  have s2 := ownsRow_string HWW.out
  have s3 := str_self (strOfNums (rwRow ns))
  obtain ⟨ga, ca, hob, hga, hca⟩ := ownB_of HOW.out
  obtain ⟨aoA, laA, caA, hva⟩ := own_slice HOW.out
  have hgaN : va ≠ .slice none 0 0 → w2.heap.size ≤ ga ∧ ga < w3.heap.size := by
    intro hne
    rcases hob with ⟨h1, _⟩ | ⟨n, h1, _⟩
    · exact absurd h1 hne
    · exact HA3.out ga (by rw [h1]; rfl)
  have hR := rows2 (n := len) (L := len + 1) (ga := ga) (ca := ca) (B := w.heap.size) HBKW.out (by simp [H.out.size]) (by omega) (by omega) (Nat.le_refl _) hob
    (fun hne => ⟨by have := (hgaN hne).1; have := HSZ.out; omega, (hga hne).2, by have := (hgaN hne).1; have := HSZ.out; omega⟩) (by unfold maxLen at hca; omega)
  have HGA := Lib.hid hgaN
  clear hgaN HA3 hga hca hob
  subst hva
  have HRR := Lib.hid hR
  have HBR := Lib.hid (HBW.out.alloc HBW.out.size (.cells #[.slice aoA laA caA, .slice (some ⟨w.heap.size, 0, none⟩) len (len + 1)] 22))
  clear hR
  go_wp2_with fail
  refine (owned_any _ w.heap.size _ 2 2 _ _ _ HRR.out (by omega)).mono ?_
  rintro e w8 ⟨rfl, hb8, hk8⟩
  have HB8 := Lib.hid (HBR.out.trans hb8)
  have HK8 : Hid (∀ k, k ≠ w.heap.size → ¬ (w2.heap.size ≤ k ∧ k < w3.heap.size) → k < W.heap.size → w8.heap[k]? = W.heap[k]?) := by
    intro k h1 h2 h3
    rw [← Below.heap_alloc W (.cells #[.slice aoA laA caA, .slice (some ⟨w.heap.size, 0, none⟩) len (len + 1)] 22) k h3]
    refine hk8 k (fun i hi hne => ?_)
    match i, hi with
    | 0, _ => intro e; have := HGA.out hne; exact h2 ⟨by rw [e]; exact this.1, by rw [e]; exact this.2⟩
    | 1, _ => exact h1
  have HMID8 : Hid (∀ x, MidI w8 gm cm 0 x) := fun x => (HMIDW.out x).other (HK8.out gm (by have := HSZ.out; omega) (by omega) (by have := HSZ.out; omega))
  have HOWN8 : Hid (.slice aoV lV cV = Value.slice none 0 0 ∨ ∃ ga na ca, Value.slice aoV lV cV = .slice (some ⟨ga, 0, none⟩) na ca ∧ na ≤ ca ∧ ca ≤ 9223372036854775807 ∧ w.heap.size ≤ ga ∧ ga ≠ gm ∧ ∀ x, MidI w8 ga ca 0 x) := by
    rcases HOWNW.out with h | ⟨ga, na, ca, h1, h2, h3, h4, h5, h6⟩
    · exact .inl h
    · have := HSZ.out
      exact .inr ⟨ga, na, ca, h1, h2, h3, by omega, by omega, fun x => (h6 x).other (HK8.out ga (by omega) (by omega) (by omega))⟩
  clear hb8 hk8 s1 s2 HRR HBR HK8 HMIDW HOWNW HGA
  go_wp2_with fail
  refine (owni_all w8 w.heap.size gm ll cm _ HOWN8.out HMID8.out hcm1 hcm2 (by have := HSZ.out; omega)).mono ?_
  rintro e w9 ⟨rfl, hb9⟩
  have HB9 := Lib.hid (HB8.out.trans hb9)
  clear hb9 HOWN8 HMID8
  go_wp2_with fail
  refine (ints_short _ 2 2 [1, -1] _ (by omega) rfl (two_ints w9) (by decide)).mono ?_
  rintro e wA ⟨vA, rfl, ⟨gA, cA, hvA, hoA⟩, hbA⟩
  have sA := ownsRow_string hoA
  rw [show strOfNums (enc 2 ++ encs [1, -1]) = { data := #[2, 2, 1] } from rfl] at sA
  rw [show (enc 2 ++ encs [1, -1]).length = 3 from rfl] at hvA
  rw [hvA] at sA
  subst hvA
  have HBA := Lib.hid ((HB9.out.alloc HB9.out.size (.cells #[.int .i64 1, .int .i64 (-1)] 3)).trans (hbA.mono (by have := HB9.out.size; simp; omega)))
  clear hoA hbA
  go_wp2_with fail
  go_ret
  exact ⟨by simp, HBA.out⟩

theorem rows_walk (a0 : Option Addr) (len0 cap0 : Nat) (z0 : List Int) (a1 : Option Addr) (len1 cap1 : Nat) (z1 : List Int) (w : World)
    (w0 : IsRow .i64 w a0 len0 cap0 z0) (s0 : cap0 * 8 ≤ 140737488351232) (w1 : IsRow .u8 w a1 len1 cap1 z1) (s1 : cap1 * 1 ≤ 140737488351232) :
    Calls Try.prog 6 #[.slice a0 len0 cap0, .slice a1 len1 cap1] w fun e w' => e = .returned (.bool true) ∧ Below w.heap.size w w' := by
  have h2 := readsI_of_row w0
  have hl0 : len0 ≤ cap0 := by rcases w0 with ⟨_, h, _⟩ | ⟨_, _, h, _⟩ <;> omega
  have hl1 : len1 ≤ cap1 := by rcases w1 with ⟨_, h, _⟩ | ⟨_, _, h, _⟩ <;> omega
  exact rows_any a0 len0 cap0 (z0.take len0) a1 len1 cap1 (z1.take len1) w h2.1 h2.2.1 (by omega) h2.2.2 (nil_of_row w0) (src_of_row w1 s1) (by omega)

end Go.Proofs.Ytkjcdndlhjacfaa
