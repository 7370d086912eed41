/-
  What a law's walk is told of an environment that came in.
-/
import Derived.Test.YthgodhojhajahaaGreatDoorVaT
namespace Go.Proofs.YthgodhojhajahaaGreatDoor
open Go.RowKit Go.Deep Go.ChangeShapes Go.WideShapes

theorem list3 {α : Type} {l : List α} (h : l.length = 3) : ∃ a b c, l = [a, b, c] := by
  match l, h with
  | [a, b, c], _ => exact ⟨a, b, c, rfl⟩

set_option maxRecDepth 20000 in
theorem open_nums {H : Type} {enc : TypeId × Value → H} {W : World} {fuel : Nat} {cs : List Value} {y : DataW H × List MemPlace} (h : DataW.trod enc Tryz.prog W 0 (fun _ => true) true fuel 26 cs = some y)
    (hw : ∀ m ∈ y.1.weights Tryz.prog 26, m ≤ 140737488351232) :
    ∃ (A : Option Addr) (len cap : Nat) (ns : List Int), cs = [.slice A len cap] ∧ ns.length = len ∧ len ≤ cap ∧ cap ≤ maxLen ∧ len * 8 ≤ 140737488351232 ∧ IntAt W A ns ∧ ∀ n ∈ ns, inR n := by
  have eI : Tryz.prog.cellsOf 3 = 1 := by kernel_rfl
  rcases DataW.trod_slice Tryz.underlying26 h with ⟨rfl, _⟩ | ⟨a, len, cap, elems, rest, n, _, rfl, rfl, _, hlc, hcm, hel, hi, _⟩
  · exact ⟨none, 0, 0, [], rfl, rfl, Nat.le_refl _, Nat.zero_le _, by omega, fun i s hs => by simp at hs, fun s hs => by cases hs⟩
  · have each : ∀ i, i < len → ∃ s : Int, W.cell? (a.add i) = some (.int .i64 s) ∧ inR s := by
      intro i hil
      have h := hi i hil
      rw [List.getElem?_eq_getElem (by omega), eI, Nat.mul_one] at h
      obtain ⟨cs', h1, h2⟩ := Option.bind_eq_some_iff.1 h
      obtain ⟨s, rfl, _, hr⟩ := DataW.trod_int Tryz.underlying3 h2
      obtain ⟨_, _, hc⟩ := World.cells?_some h1
      have hc0 := hc 0 (by omega)
      rw [add_add, Nat.add_zero] at hc0
      exact ⟨s, hc0, wf_range hr⟩
    obtain ⟨xs, hxl, hx⟩ := choose_list each
    refine ⟨some a, len, cap, xs, rfl, hxl, hlc, hcm, ?_, fun i s hs => ?_, fun s hs => ?_⟩
    · refine Nat.le_trans (Nat.mul_le_mul_right 8 (Nat.le_add_right len rest.length)) (hw _ ?_)
      simp only [DataW.weights, Tryz.underlying26]
      refine List.mem_cons.2 (.inl ?_)
      rw [show Tryz.prog.bytesOf 3 = 8 from by kernel_rfl, List.length_map, List.length_map, hel]
    · have hlt := (List.getElem?_eq_some_iff.1 hs).1
      have hsp : a.spot = none := by
        obtain ⟨s0, hs0⟩ : ∃ s0, xs[0]? = some s0 := ⟨_, List.getElem?_eq_getElem (by omega)⟩
        exact spot_none (hx 0 s0 hs0).1
      obtain ⟨g, o, sp⟩ := a
      simp only at hsp
      subst hsp
      have hc := (hx i s hs).1
      rw [Addr.add_lit] at hc
      exact ⟨g, o, rfl, World.block_lt_of_cell? W _ hc, hc⟩
    · obtain ⟨i, hi'⟩ := List.getElem?_of_mem hs
      exact (hx i s hi').2

/-- Its rows are no greater than memory. -/
structure NvFit (e : NV) (xs zs : List ByteArray) : Prop where
  n : e.nL * 16 ≤ 140737488351232
  m : e.mL * 8 ≤ 140737488351232
  a : e.aL * 16 ≤ 140737488351232
  xs : ∀ s ∈ xs, s.size ≤ 140737488351232
  zs : ∀ s ∈ zs, s.size ≤ 140737488351232

set_option maxHeartbeats 800000 in
set_option maxRecDepth 20000 in
theorem open_env0 {H : Type} {enc : TypeId × Value → H} {W : World} {fuel : Nat} {cs : List Value} {y : DataW H × List MemPlace} (hf : DataW.trod enc Tryz.prog W 0 (fun _ => true) true fuel 28 cs = some y)
    (hw : ∀ m ∈ y.1.weights Tryz.prog 28, m ≤ 140737488351232) :
    ∃ (e : NV) (xs zs : List ByteArray) (ns : List Int), cs = [.slice e.nA e.nL e.nC, .slice e.mA e.mL e.mC, .slice e.aA e.aL e.aC] ∧ NvIs W e xs zs ns ∧ (∀ n ∈ ns, inR n) ∧ NvFit e xs zs := by
  match fuel, hf with
  | 0, hf => simp [DataW.trod] at hf
  | fuel + 1, hf =>
  obtain ⟨ys, n, hn, rfl, hl, hlen, hf⟩ := DataW.trod_struct Tryz.underlying28 hf
  obtain rfl : fuel = n := by omega
  have hl3 : cs.length = 3 := hl.trans (by kernel_rfl)
  have hx3 : ys.length = 3 := hlen
  obtain ⟨c0, c1, c2, rfl⟩ := list3 hl3
  obtain ⟨y0, y1, y2, rfl⟩ := list3 hx3
  have eS : Tryz.prog.cellsOf 25 = 1 := by kernel_rfl
  have eI : Tryz.prog.cellsOf 26 = 1 := by kernel_rfl
  have f0 : DataW.trod enc Tryz.prog W 0 (fun _ => true) true fuel 25 [c0] = some y0 := by have h := hf 0 _ rfl; simpa [eI, eS] using h
  have f1 : DataW.trod enc Tryz.prog W 0 (fun _ => true) true fuel 26 [c1] = some y1 := by have h := hf 1 _ rfl; simpa [eI, eS] using h
  have f2 : DataW.trod enc Tryz.prog W 0 (fun _ => true) true fuel 25 [c2] = some y2 := by have h := hf 2 _ rfl; simpa [eI, eS] using h
  clear hf hl hlen
  have hw' : ∀ m, (m ∈ y0.1.weights Tryz.prog 25 ∨ m ∈ y1.1.weights Tryz.prog 26 ∨ m ∈ y2.1.weights Tryz.prog 25) → m ≤ 140737488351232 := by
    intro m hm
    refine hw m ?_
    simp only [DataW.weights, Tryz.underlying28, DataW.weightsEach, List.map_cons, List.map_nil, List.mem_append]
    rcases hm with hm | hm | hm
    · exact .inl hm
    · exact .inr (.inl hm)
    · exact .inr (.inr (.inl hm))
  obtain ⟨A0, l0, k0, xs, e0, b0, b1, b2, b3, b4, b5⟩ := open_strs f0 (fun m hm => hw' m (.inl hm))
  obtain ⟨A1, l1, k1, ns, e1, d0, d1, d2, d3, d4, d5⟩ := open_nums f1 (fun m hm => hw' m (.inr (.inl hm)))
  obtain ⟨A2, l2, k2, zs, e2, g0, g1, g2, g3, g4, g5⟩ := open_strs f2 (fun m hm => hw' m (.inr (.inr hm)))
  injection e0 with e0
  injection e1 with e1
  injection e2 with e2
  subst e0 e1 e2
  exact ⟨⟨A0, l0, k0, A1, l1, k1, A2, l2, k2⟩, xs, zs, ns, rfl, ⟨b0, d0, g0, ⟨b1, b2⟩, ⟨d1, d2⟩, ⟨g1, g2⟩, b4, d4, g4⟩, d5, ⟨b3, d3, g3, b5, g5⟩⟩

set_option maxRecDepth 20000 in
/-- An environment that came in. -/
theorem open_env {H : Type} {enc : TypeId × Value → H} {W : World} {ts : List TypeId} {ds : List (DataW H)} (hsz : (DataW.weightsEach Tryz.prog ts ds).all (· ≤ reachBytes) = true) {j : Nat} (ht : ts[j]? = some 28)
    {cs : Array Value} {d : DataW H} {p : List MemPlace} (hd : ds[j]? = some d) (h : DataW.Trod enc Tryz.prog W 0 (fun _ => true) true 28 (.agg cs) d p) :
    ∃ (e : NV) (xs zs : List ByteArray) (ns : List Int), (.agg cs : Value) = e.val ∧ NvIs W e xs zs ns ∧ (∀ n ∈ ns, inR n) ∧ NvFit e xs zs := by
  obtain ⟨fuel, hf⟩ := h
  obtain ⟨e, xs, zs, ns, hc, h1, h2, h3⟩ := open_env0 hf (fun m hm => by
    have := List.all_eq_true.1 hsz _ (DataW.weights_mem_each ht hd _ hm)
    exact of_decide_eq_true this)
  refine ⟨e, xs, zs, ns, ?_, h1, h2, h3⟩
  have hc' : cs.toList = [.slice e.nA e.nL e.nC, .slice e.mA e.mL e.mC, .slice e.aA e.aL e.aC] := hc
  rw [show cs = #[Value.slice e.nA e.nL e.nC, Value.slice e.mA e.mL e.mC, Value.slice e.aA e.aL e.aC] from by rw [← Array.toList_inj, hc']]
  rfl

end Go.Proofs.YthgodhojhajahaaGreatDoor
