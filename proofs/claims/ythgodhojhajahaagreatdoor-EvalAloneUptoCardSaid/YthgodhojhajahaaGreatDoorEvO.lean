/-
  What a law's walk is told of an expression that came in.
-/
import Derived.Test.YthgodhojhajahaaGreatDoorEwS
import Derived.Deep.Slices
import Derived.SizedLaws
import Derived.OpenShut
namespace Go.Proofs.YthgodhojhajahaaGreatDoor
open Go.RowKit Go.Deep Go.ChangeShapes Go.WideShapes

theorem list6 {α : Type} {l : List α} (h : l.length = 6) : ∃ a b c d e f, l = [a, b, c, d, e, f] := by
  match l, h with
  | [a, b, c, d, e, f], _ => exact ⟨a, b, c, d, e, f, rfl⟩

theorem GRow.of {w : World} {lo hi : Nat} {A : Option Addr} : ∀ {l : List GX} {i : Nat}, (∀ (j : Nat) (x : GX), l[j]? = some x → ∃ g o v, A = some ⟨g, o, none⟩ ∧ lo ≤ g ∧ g < hi ∧ EvAt w g (o + (i + j) * 6) v ∧ GV w lo hi x v) → GRow w lo hi l A i
  | [], _, _ => by unfold GRow; trivial
  | x :: l, i, h => by
    unfold GRow
    refine ⟨by simpa using h 0 x rfl, GRow.of fun j y hy => ?_⟩
    have := h (j + 1) y (by simpa using hy)
    rw [show i + 1 + j = i + (j + 1) from by omega]
    exact this

theorem rngs_of : ∀ {l : List GX}, (∀ x ∈ l, x.rng) → GX.rngs l
  | [], _ => by rw [GX.rngs]; trivial
  | x :: l, h => by
    rw [GX.rngs]
    exact ⟨h x (by simp), rngs_of fun y hy => h y (by simp [hy])⟩

theorem mem_weightsAll2 {H : Type} {P : Program} {e : TypeId} {d : DataW H} {n : Nat} (hn : n ∈ d.weights P e) : ∀ {ds : List (DataW H)}, d ∈ ds → n ∈ DataW.weightsAll P e ds
  | [], h => by cases h
  | d0 :: ds, h => by
    rw [DataW.weightsAll, List.mem_append]
    rcases List.mem_cons.1 h with rfl | h
    · exact .inl hn
    · exact .inr (mem_weightsAll2 hn h)

mutual
/-- Its rows are no greater than memory. -/
def GX.fit : GX → Prop
  | .mk _ _ _ _ l _ => l.length * 72 ≤ 140737488351232 ∧ GX.fits l
def GX.fits : List GX → Prop
  | [] => True
  | x :: l => x.fit ∧ GX.fits l
end

theorem fits_of : ∀ {l : List GX}, (∀ x ∈ l, x.fit) → GX.fits l
  | [], _ => by rw [GX.fits]; trivial
  | x :: l, h => by
    rw [GX.fits]
    exact ⟨h x (by simp), fits_of fun y hy => h y (by simp [hy])⟩

theorem fits_get : ∀ {l : List GX} {j : Nat} {x : GX}, GX.fits l → l[j]? = some x → x.fit
  | [], j, x, _, h => by simp at h
  | y :: l, 0, x, hr, h => by
    rw [GX.fits] at hr
    have : y = x := by simpa using h
    rw [← this]
    exact hr.1
  | y :: l, j + 1, x, hr, h => by
    rw [GX.fits] at hr
    exact fits_get hr.2 (by simpa using h)

instance : Inhabited GX := ⟨.mk 0 0 [] 0 [] 0⟩
instance : Inhabited EV := ⟨⟨0, 0, ⟨#[]⟩, 0, none, 0, 0, 0⟩⟩

theorem evAt_of_cells {w : World} {g o i : Nat} {v : EV} (h : w.cells? 0 ((⟨g, o, none⟩ : Addr).add (i * 6)) 6 = some v.cells) : EvAt w g (o + i * 6) v := by
  obtain ⟨_, _, hc⟩ := World.cells?_some h
  simp only [Addr.add_lit] at hc
  exact ⟨hc 0 (by omega), hc 1 (by omega), hc 2 (by omega), hc 3 (by omega), hc 4 (by omega), hc 5 (by omega)⟩

theorem wf_range {n : Int} (h : (Lit.int .i64 n).wf = true) : -9223372036854775808 ≤ n ∧ n ≤ 9223372036854775807 := by
  simp only [Lit.wf, Bool.and_eq_true, decide_eq_true_eq] at h
  exact ⟨h.1, h.2⟩

set_option maxHeartbeats 1600000 in
set_option maxRecDepth 20000 in
theorem open_tree {H : Type} {enc : TypeId × Value → H} {W : World} : ∀ (fuel : Nat) (cs : List Value) (y : DataW H × List MemPlace), DataW.trod enc Tryz.prog W 0 (fun _ => true) true fuel 24 cs = some y →
    (∀ m ∈ y.1.weights Tryz.prog 24, m ≤ 140737488351232) → ∃ (x : GX) (v : EV), cs = v.cells ∧ GV W 0 W.heap.size x v ∧ x.rng ∧ x.fit
  | 0, cs, y, h, _ => by simp [DataW.trod] at h
  | fuel + 1, cs, y, h, hw => by
    obtain ⟨xs, n, hn, rfl, hl, hlen, hf⟩ := DataW.trod_struct Tryz.underlying24 h
    obtain rfl : fuel = n := by omega
    have hl6 : cs.length = 6 := hl.trans (by kernel_rfl)
    have hx6 : xs.length = 6 := hlen
    obtain ⟨c0, c1, c2, c3, c4, c5, rfl⟩ := list6 hl6
    obtain ⟨y0, y1, y2, y3, y4, y5, rfl⟩ := list6 hx6
    have eI : Tryz.prog.cellsOf 3 = 1 := by kernel_rfl
    have eS : Tryz.prog.cellsOf 9 = 1 := by kernel_rfl
    have eL : Tryz.prog.cellsOf 22 = 1 := by kernel_rfl
    have eE : Tryz.prog.cellsOf 24 = 6 := by kernel_rfl
    have f0 : DataW.trod enc Tryz.prog W 0 (fun _ => true) true fuel 3 [c0] = some y0 := by have h := hf 0 _ rfl; simpa [eI, eS, eL] using h
    have f1 : DataW.trod enc Tryz.prog W 0 (fun _ => true) true fuel 3 [c1] = some y1 := by have h := hf 1 _ rfl; simpa [eI, eS, eL] using h
    have f2 : DataW.trod enc Tryz.prog W 0 (fun _ => true) true fuel 9 [c2] = some y2 := by have h := hf 2 _ rfl; simpa [eI, eS, eL] using h
    have f3 : DataW.trod enc Tryz.prog W 0 (fun _ => true) true fuel 3 [c3] = some y3 := by have h := hf 3 _ rfl; simpa [eI, eS, eL] using h
    have f4 : DataW.trod enc Tryz.prog W 0 (fun _ => true) true fuel 22 [c4] = some y4 := by have h := hf 4 _ rfl; simpa [eI, eS, eL] using h
    have f5 : DataW.trod enc Tryz.prog W 0 (fun _ => true) true fuel 3 [c5] = some y5 := by have h := hf 5 _ rfl; simpa [eI, eS, eL] using h
    clear h hf hl hlen
    obtain ⟨n0, h0, _, r0⟩ := DataW.trod_int Tryz.underlying3 f0
    obtain ⟨n1, h1, _, r1⟩ := DataW.trod_int Tryz.underlying3 f1
    obtain ⟨s2, h2, e2, _⟩ := DataW.trod_string Tryz.underlying9 f2
    obtain ⟨n3, h3, _, r3⟩ := DataW.trod_int Tryz.underlying3 f3
    obtain ⟨n5, h5, _, r5⟩ := DataW.trod_int Tryz.underlying3 f5
    injection h0 with h0; injection h1 with h1; injection h2 with h2; injection h3 with h3; injection h5 with h5
    subst h0 h1 h2 h3 h5
    have hw' : ∀ m, (m ∈ y2.1.weights Tryz.prog 9 ∨ m ∈ y4.1.weights Tryz.prog 22) → m ≤ 140737488351232 := by
      intro m hm
      refine hw m ?_
      simp only [DataW.weights, Tryz.underlying24, DataW.weightsEach, List.map_cons, List.map_nil, List.mem_append]
      rcases hm with hm | hm
      · exact .inr (.inr (.inl hm))
      · exact .inr (.inr (.inr (.inr (.inl hm))))
    have hs2 : s2.data.toList.length ≤ 140737488351232 := by
      refine hw' _ (.inl ?_)
      rw [e2]
      simp only [DataW.weights]
      exact List.mem_singleton.2 rfl
    rcases DataW.trod_slice Tryz.underlying22 f4 with ⟨hc, _⟩ | ⟨a, len, cap, elems, rest, n, hn, hc, rfl, _, hlc, hcm, hel, hi, _⟩
    · injection hc with hc
      subst hc
      exact ⟨.mk n0 n1 s2.data.toList n3 [] n5, ⟨n0, n1, s2, n3, none, 0, 0, n5⟩, rfl, GV.leaf W 0 _ n0 n1 n3 n5 s2, by
        rw [GX.rng, GX.rngs, GX.fit, GX.fits]
        exact ⟨⟨wf_range r1, wf_range r3, hs2, trivial⟩, by simp, trivial⟩⟩
    · injection hc with hc
      subst hc
      have each : ∀ i, i < len → ∃ z : GX × EV, W.cells? 0 (a.add (i * 6)) 6 = some z.2.cells ∧ GV W 0 W.heap.size z.1 z.2 ∧ z.1.rng ∧ z.1.fit := by
        intro i hil
        have h := hi i hil
        rw [List.getElem?_eq_getElem (by omega), eE] at h
        obtain ⟨cs', h1, h2⟩ := Option.bind_eq_some_iff.1 h
        obtain ⟨x, v, rfl, hg, hr, hft⟩ := open_tree n cs' _ h2 (fun m hm => by
          refine hw' m (.inr ?_)
          simp only [DataW.weights, Tryz.underlying22]
          refine List.mem_cons.2 (.inr (List.mem_append.2 (.inl (mem_weightsAll2 hm (List.mem_map.2 ⟨_, List.getElem_mem _, rfl⟩)))))
          )
        exact ⟨(x, v), h1, hg, hr, hft⟩
      obtain ⟨f, hfz⟩ := choose_lt each
      have hlen : ((List.range len).map fun i => (f i).1).length = len := by simp
      refine ⟨.mk n0 n1 s2.data.toList n3 ((List.range len).map fun i => (f i).1) n5, ⟨n0, n1, s2, n3, some a, len, cap, n5⟩, rfl, ?_, ?_, ?_⟩
      · unfold GV
        refine ⟨rfl, rfl, rfl, rfl, rfl, hlen.symm, hlc, hcm, GRow.of fun j x hx => ?_⟩
        have hj : j < len := by
          have := (List.getElem?_eq_some_iff.1 hx).1
          omega
        have hxe : (f j).1 = x := by
          rw [List.getElem?_map, List.getElem?_range hj] at hx
          simpa using hx
        subst hxe
        obtain ⟨h1, h2, _, _⟩ := hfz j hj
        have hsp : a.spot = none := by
          obtain ⟨k1, _, _⟩ := hfz 0 (by omega)
          obtain ⟨_, _, kc⟩ := World.cells?_some k1
          have h0 := World.cell?_spot (kc 0 (by omega))
          simpa [Addr.add] using h0
        obtain ⟨g, o, sp⟩ := a
        simp only at hsp
        subst hsp
        have hev := evAt_of_cells h1
        exact ⟨g, o, (f j).2, rfl, Nat.zero_le _, World.block_lt_of_cell? W _ hev.1, by rw [Nat.zero_add]; exact hev, h2⟩
      · rw [GX.rng]
        refine ⟨wf_range r1, wf_range r3, hs2, rngs_of fun x hx => ?_⟩
        obtain ⟨i, hi', rfl⟩ := List.mem_map.1 hx
        exact (hfz i (List.mem_range.1 hi')).2.2.1
      · rw [GX.fit, hlen]
        refine ⟨?_, fits_of fun x hx => ?_⟩
        · refine Nat.le_trans (Nat.mul_le_mul_right 72 (Nat.le_add_right len rest.length)) (hw' _ (.inr ?_))
          simp only [DataW.weights, Tryz.underlying22]
          refine List.mem_cons.2 (.inl ?_)
          rw [show Tryz.prog.bytesOf 24 = 72 from by kernel_rfl, List.length_map, List.length_map, hel]
        · obtain ⟨i, hi', rfl⟩ := List.mem_map.1 hx
          exact (hfz i (List.mem_range.1 hi')).2.2.2
  termination_by fuel => fuel

set_option maxRecDepth 20000 in
/-- An expression that came in. -/
theorem open_expr {H : Type} {enc : TypeId × Value → H} {W : World} {ts : List TypeId} {ds : List (DataW H)} (hsz : (DataW.weightsEach Tryz.prog ts ds).all (· ≤ reachBytes) = true) {j : Nat} (ht : ts[j]? = some 24)
    {cs : Array Value} {d : DataW H} {p : List MemPlace} (hd : ds[j]? = some d) (h : DataW.Trod enc Tryz.prog W 0 (fun _ => true) true 24 (.agg cs) d p) :
    ∃ (x : GX) (v : EV), (.agg cs : Value) = v.val ∧ GV W 0 W.heap.size x v ∧ x.rng ∧ x.fit := by
  obtain ⟨fuel, hf⟩ := h
  obtain ⟨x, v, hc, hg, hr, hft⟩ := open_tree fuel _ _ hf (fun m hm => by
    have := List.all_eq_true.1 hsz _ (DataW.weights_mem_each ht hd _ hm)
    exact of_decide_eq_true this)
  refine ⟨x, v, ?_, hg, hr, hft⟩
  have hc' : cs.toList = v.cells := hc
  rw [show cs = v.cells.toArray from by rw [← hc']]
  rfl

end Go.Proofs.YthgodhojhajahaaGreatDoor
