/-
  A set of names as a rising row.
-/
import Derived.Test.YthgodhojhajahaaGreatDoorVaK
import Derived.Test.YthgodhojhajahaaGreatDoorIter
import Derived.Test.YthgodhojhajahaaGreatDoorXA
namespace Go.Proofs.YthgodhojhajahaaGreatDoor
open Go.RowKit Go.Maps

/-- A place of a row of strings of the call's own. -/
theorem StRow.at_ {w : World} {base : Nat} {A : Option Addr} {n c : Nat} {xs : List ByteArray} (h : StRow w base (.slice A n c) xs) {i : Nat} {s : ByteArray} (hi : xs[i]? = some s) :
    ∃ g, A = some ⟨g, 0, none⟩ ∧ base ≤ g ∧ g < w.heap.size ∧ w.cell? ⟨g, i, none⟩ = some (.string s) ∧ w.frozen? ⟨g, i, none⟩ = false ∧ ∀ t : ByteArray, StRow (w.setCell ⟨g, i, none⟩ (.string t)) base (.slice A n c) (xs.set i t) := by
  have hlt := (List.getElem?_eq_some_iff.1 hi).1
  rcases h.2 with ⟨_, h0⟩ | ⟨g, cap, cur, hv, hb, hg, hnc, hcm, hcs, htk⟩
  · omega
  · have hc := World.ownsRow.cells h (show (Value.slice A n c).ownBlock = some g by rw [hv]; rfl) i (.string s) (by rw [List.getElem?_map, hi]; rfl)
    rw [Addr.add_lit, Nat.zero_add] at hc
    injection hv with hA hn hcap
    refine ⟨g, hA, hb, (Array.getElem?_eq_some_iff.1 hg).1, hc, by simp [World.frozen?, hg], fun t => ?_⟩
    have h2 := heap_setCell_same w g i _ _ (.string t) hg
    refine ⟨by simp, .inr ⟨g, cap, cur.setIfInBounds i (.string t), by rw [hA, hn, hcap, List.length_set], hb, h2, by rw [List.length_set]; exact hnc, hcm, by simpa using hcs, ?_⟩⟩
    rw [List.length_set, Array.toList_setIfInBounds, List.take_set, htk, List.map_set]

theorem isKey_str (acc : List (List UInt8)) : ∀ x ∈ acc.map Lit.string, WideAt.IsKeyLit x := fun x hx => by
  obtain ⟨s, _, rfl⟩ := List.mem_map.1 hx
  simp [WideAt.IsKeyLit]

theorem set_has (acc : List (List UInt8)) (t : List UInt8) : Maps.has (setOf (H := Unit) (.agg []) (acc.map Lit.string)) (.string t) = true ↔ t ∈ acc := by
  rw [has_setOf _ _ _ (isKey_str acc), List.any_eq_true]
  constructor
  · rintro ⟨x, hx, h⟩
    obtain ⟨s, hs, rfl⟩ := List.mem_map.1 hx
    have : s = t := by simpa [Lit.sameKey] using h
    rw [← this]
    exact hs
  · exact fun h => ⟨.string t, List.mem_map.2 ⟨t, h, rfl⟩, by simp [Lit.sameKey]⟩

theorem set_perm {w : World} {b : Nat} {acc NM : List (List UInt8)} (hM : SetAt w b acc) (hr : Rising NM) (hm : ∀ t, t ∈ NM ↔ t ∈ acc) : NM.Perm (strKeys (setOf (H := Unit) (.agg []) (acc.map Lit.string))) := by
  obtain ⟨es, hD, hpw, _⟩ := World.ownsMap.entries hM strLaw
  obtain ⟨es', hD', hko⟩ := World.ownsMap.keysOf hM
  obtain rfl : es = es' := by rw [hD] at hD'; simpa using hD'
  have h2 : ∀ t, t ∈ NM ↔ Maps.has (.map es) (.string t) = true := fun t => by rw [← hD, set_has, hm]
  rw [hD]
  exact perm_strKeys hpw (fun p hp => by obtain ⟨v, hv⟩ := hko p hp; obtain ⟨x, _, hx, _⟩ := Maps.keyOf_str Tryz.underlying9 hv; exact ⟨x, hx⟩) (rising_nodup hr) h2

/-- Names as strings. -/
def mkS (l : List (List UInt8)) : List ByteArray := l.map fun s => ⟨s.toArray⟩

theorem mkS_len (l : List (List UInt8)) : (mkS l).length = l.length := by unfold mkS; rw [List.length_map]
theorem mkS_get {l : List (List UInt8)} {i : Nat} {s : ByteArray} (h : (mkS l)[i]? = some s) : l[i]? = some s.data.toList := by
  unfold mkS at h
  rw [List.getElem?_map] at h
  obtain ⟨t, ht, rfl⟩ := Option.map_eq_some_iff.1 h
  rw [ht]

set_option maxHeartbeats 800000 in
set_option maxRecDepth 20000 in
theorem list_any (w : World) (b : Nat) (acc NM : List (List UInt8)) (hM : SetAt w b acc) (hr : Rising NM) (hm : ∀ t, t ∈ NM ↔ t ∈ acc) (hb : acc.length * 16 ≤ 140737488355328) (hs : ∀ s ∈ acc, s.length ≤ 140737488351232) :
    Calls Tryz.prog 24 #[.map (some b)] w fun e w' => ∃ v, e = .returned v ∧ StRow w' w.heap.size v (mkS NM) ∧ Below w.heap.size w w' := by
  have hsz := World.ownsMap.size_le hM
  have HK := Lib.hid (callsIn_wide.1 (Tryz.maps_KeysN (some b) w))
  have HSo := Lib.hid (callsIn_wide.1 (Tryz.slices_SortedN b acc.length _ _ w hM (by unfold maxLen; omega) (by omega)))
  have HP := Lib.hid (set_perm hM hr hm)
  have HR := Lib.hid hr
  have HSZ : Hid (∀ s ∈ mkS NM, s.size ≤ 140737488351232) := fun s hs' => by
    obtain ⟨t, ht, rfl⟩ := List.mem_map.1 hs'
    have := hs t ((hm t).1 ht)
    show t.toArray.size ≤ _
    simpa using this
  have HBA : Hid (Below w.heap.size w (w.alloc (.cells #[.map (some b)] 55))) := (Below.refl _ w).alloc (Nat.le_refl _) _
  clear hM hr hm hb hs hsz
  go_enter Tryz.func24, Tryz.ntmps24
  go_wp2_with fail
  refine HK.out.mono ?_
  rintro e w' ⟨rfl, rfl⟩
  go_wp2_with fail
  refine HSo.out.mono ?_
  rintro e w1 ⟨v, ss, rfl, hp, hrow, _, hbl⟩
  have hst : StRow w1 w.heap.size v (mkS NM) := by
    rw [rising_sorted HR.out (hp.trans HP.out.symm)] at hrow
    have hlen : ss.length = (mkS NM).length := by rw [mkS_len, hp.length_eq, HP.out.length_eq]
    rw [hlen] at hrow
    have he : NM.map encStr = (mkS NM).map .string := by unfold mkS; rw [List.map_map]; rfl
    rw [he] at hrow
    refine ⟨hrow.1, ?_⟩
    rcases hrow.2 with h | ⟨g, cap, cur, a1, a2, a3⟩
    · exact .inl h
    · exact .inr ⟨g, cap, cur, a1, Nat.le_trans HBA.out.size a2, a3⟩
  have HB1 := Lib.hid (HBA.out.trans (hbl.mono HBA.out.size))
  obtain ⟨A, c, rfl, hnc, hcm, _, _⟩ := hst.str
  have HST := Lib.hid hst
  have HCM : Hid ((mkS NM).length ≤ 9223372036854775807) := by unfold maxLen at hcm; exact Nat.le_trans hnc (by omega)
  obtain ⟨n, hn⟩ : ∃ n, (mkS NM).length = n := ⟨_, rfl⟩
  have HN := Lib.hid hn
  rw [hn] at HST HCM hnc ⊢
  clear hp hrow hbl hst HSo HK HBA hcm hn HR HP
  go_wp2_with fail
  go_loopw [11] (fun iv wr => ∃ i : Nat, i ≤ n ∧ iv = .int .i64 (i : Int) ∧ Hid (StRow wr w.heap.size (.slice A n c) (mkS NM)) ∧ Hid (Below w.heap.size w wr)) (fun iv _ => n - (intOf iv).toNat)
  case atStart => exact ⟨0, Nat.zero_le _, rfl, HST, HB1⟩
  case round =>
    obtain ⟨i, hi, rfl, HRW, HBW⟩ := hrel
    by_cases him : i < n
    · have HIM := Lib.hid him
      have him' : (i : Int) < n := by omega
      obtain ⟨s, hs⟩ : ∃ s, (mkS NM)[i]? = some s := ⟨_, List.getElem?_eq_getElem (by rw [HN.out]; exact him)⟩
      obtain ⟨g, rfl, hgb, hgl, x0, _, _⟩ := HRW.out.at_ hs
      have HC := Lib.hid (clone_any s wr (HSZ.out s (List.mem_of_getElem? hs)))
      have HGS := Lib.hid hs
      have HGB := Lib.hid hgb
      clear hs hgb hgl
      go_wp2_with fail
      refine HC.out.mono ?_
      rintro e w2 ⟨rfl, hb⟩
      obtain ⟨g', hg', _, _, y0, y1, y2⟩ := (HRW.out.below hb).at_ HGS.out
      obtain rfl : g = g' := by injection hg' with h; injection h
      have y3 := y2 s
      have hset : (mkS NM).set i s = mkS NM := by
        obtain ⟨h1, h2⟩ := List.getElem?_eq_some_iff.1 HGS.out
        rw [← h2]
        exact List.set_getElem_self h1
      rw [hset] at y3
      have HR2 := Lib.hid y3
      have HB2 : Hid (Below w.heap.size w (w2.setCell ⟨g, i, none⟩ (.string s))) := (HBW.out.trans (hb.mono HBW.out.size)).setCell HGB.out _
      clear hb hg' y2 y3 hset x0 HC
      go_wp2_with fail
      exact ⟨⟨i + 1, by have := HIM.out; omega, by have h1 := HIM.out; have h2 := HCM.out; rw [Go.IntWalk.wrap64_in _ ⟨by omega, by omega⟩]; rfl, HR2, HB2⟩, by have h1 := HIM.out; have h2 := HCM.out; rw [Go.IntWalk.wrap64_in _ ⟨by omega, by omega⟩]; simp [intOf]; omega⟩
    · have him' : ¬ (i : Int) < n := by omega
      go_wp2_with fail
      go_ret
      exact ⟨_, rfl, HRW.out, HBW.out⟩

end Go.Proofs.YthgodhojhajahaaGreatDoor
