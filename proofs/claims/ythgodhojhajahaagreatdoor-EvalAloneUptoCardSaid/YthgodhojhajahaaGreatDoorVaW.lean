/-
  What a law's walk is told of an expression that came in, of a bulk that is bounded.
-/
import Derived.Test.YthgodhojhajahaaGreatDoorVaV
import Derived.Test.YthgodhojhajahaaGreatDoorEvO
namespace Go.Proofs.YthgodhojhajahaaGreatDoor
open Go.RowKit Go.Deep Go.ChangeShapes Go.WideShapes

mutual
/-- How many nodes. -/
def GX.cnt : GX → Nat
  | .mk _ _ _ _ l _ => 1 + GX.cnts l
def GX.cnts : List GX → Nat
  | [] => 0
  | x :: l => x.cnt + GX.cnts l
end

mutual
theorem col_cnt (kd : Int) : ∀ x : GX, (colP kd x).length ≤ x.cnt
  | .mk k n s o l p => by
    rw [colP_mk, List.length_append, GX.cnt]
    have := cols_cnt kd l
    split <;> simp only [List.length_singleton, List.length_nil] <;> omega
theorem cols_cnt (kd : Int) : ∀ l : List GX, (colsP kd l).length ≤ GX.cnts l
  | [] => by rw [colsP_nil, GX.cnts]; exact Nat.le_refl _
  | x :: l => by
    rw [colsP_cons, List.length_append, GX.cnts]
    have := col_cnt kd x
    have := cols_cnt kd l
    omega
end

theorem cnts_le {H : Type} : ∀ (l : List GX) (ds : List (DataW H)), l.length = ds.length → (∀ (i : Nat) (x : GX) (d : DataW H), l[i]? = some x → ds[i]? = some d → x.cnt ≤ Rows.uptoBulk d) → GX.cnts l ≤ Rows.uptoBulkAll ds
  | [], [], _, _ => by rw [GX.cnts]; exact Nat.zero_le _
  | [], _ :: _, h, _ => by simp at h
  | _ :: _, [], h, _ => by simp at h
  | x :: l, d :: ds, h, hh => by
    rw [GX.cnts, Rows.uptoBulkAll]
    have h1 := hh 0 x d rfl rfl
    have h2 := cnts_le l ds (by simpa using h) (fun i y e hy he => hh (i + 1) y e (by simpa using hy) (by simpa using he))
    omega

theorem bulk_aux0 (a : Nat) : 1 + 0 ≤ a + 1 := by omega
theorem bulk_aux1 (a b : Nat) : 1 + a ≤ a + b + 1 + 1 := by omega

set_option maxHeartbeats 1600000 in
set_option maxRecDepth 20000 in
theorem open_tree6 {H : Type} {enc : TypeId × Value → H} {W : World} : ∀ (fuel : Nat) (cs : List Value) (y : DataW H × List MemPlace), DataW.trod enc Tryz.prog W 0 (fun _ => true) true fuel 24 cs = some y →
    (∀ m ∈ y.1.weights Tryz.prog 24, m ≤ 140737488351232) → ∃ (x : GX) (v : EV), cs = v.cells ∧ GV W 0 W.heap.size x v ∧ x.rng ∧ x.fit ∧ x.cnt ≤ Rows.uptoBulk y.1
  | 0, cs, y, h, _ => by simp [DataW.trod] at h
  | fuel + 1, cs, y, h, hw => by
    obtain ⟨xs, n, hn, rfl, hl, hlen, hf⟩ := DataW.trod_struct Tryz.underlying24 h
    obtain rfl : fuel = n := by omega
    have hl6 : cs.length = 6 := hl.trans (by kernel_rfl)
    have hx6 : xs.length = 6 := hlen
    obtain ⟨c0, c1, c2, c3, c4, c5, rfl⟩ := list6 hl6
    obtain ⟨y0, y1, y2, y3, y4, y5, rfl⟩ := list6 hx6
    have eI : Tryz.prog.cellsOf 3 = 1 := by kernel_rfl
    have eS : Tryz.prog.cellsOf 9 = 1 := by kernel_rfl
    have eL : Tryz.prog.cellsOf 22 = 1 := by kernel_rfl
    have eE : Tryz.prog.cellsOf 24 = 6 := by kernel_rfl
    have f0 : DataW.trod enc Tryz.prog W 0 (fun _ => true) true fuel 3 [c0] = some y0 := by have h := hf 0 _ rfl; simpa [eI, eS, eL] using h
    have f1 : DataW.trod enc Tryz.prog W 0 (fun _ => true) true fuel 3 [c1] = some y1 := by have h := hf 1 _ rfl; simpa [eI, eS, eL] using h
    have f2 : DataW.trod enc Tryz.prog W 0 (fun _ => true) true fuel 9 [c2] = some y2 := by have h := hf 2 _ rfl; simpa [eI, eS, eL] using h
    have f3 : DataW.trod enc Tryz.prog W 0 (fun _ => true) true fuel 3 [c3] = some y3 := by have h := hf 3 _ rfl; simpa [eI, eS, eL] using h
    have f4 : DataW.trod enc Tryz.prog W 0 (fun _ => true) true fuel 22 [c4] = some y4 := by have h := hf 4 _ rfl; simpa [eI, eS, eL] using h
    have f5 : DataW.trod enc Tryz.prog W 0 (fun _ => true) true fuel 3 [c5] = some y5 := by have h := hf 5 _ rfl; simpa [eI, eS, eL] using h
    clear h hf hl hlen
    obtain ⟨n0, h0, _, r0⟩ := DataW.trod_int Tryz.underlying3 f0
    obtain ⟨n1, h1, _, r1⟩ := DataW.trod_int Tryz.underlying3 f1
    obtain ⟨s2, h2, e2, _⟩ := DataW.trod_string Tryz.underlying9 f2
    obtain ⟨n3, h3, _, r3⟩ := DataW.trod_int Tryz.underlying3 f3
    obtain ⟨n5, h5, _, r5⟩ := DataW.trod_int Tryz.underlying3 f5
    injection h0 with h0; injection h1 with h1; injection h2 with h2; injection h3 with h3; injection h5 with h5
    subst h0 h1 h2 h3 h5
    have hbk : Rows.uptoBulk y4.1 + 1 ≤ Rows.uptoBulk (DataW.agg (List.map Prod.fst [y0, y1, y2, y3, y4, y5])) := by
      simp only [List.map_cons, List.map_nil, Rows.uptoBulk, Rows.uptoBulkAll]
      omega
    have hw' : ∀ m, (m ∈ y2.1.weights Tryz.prog 9 ∨ m ∈ y4.1.weights Tryz.prog 22) → m ≤ 140737488351232 := by
      intro m hm
      refine hw m ?_
      simp only [DataW.weights, Tryz.underlying24, DataW.weightsEach, List.map_cons, List.map_nil, List.mem_append]
      rcases hm with hm | hm
      · exact .inr (.inr (.inl hm))
      · exact .inr (.inr (.inr (.inr (.inl hm))))
    have hs2 : s2.data.toList.length ≤ 140737488351232 := by
      refine hw' _ (.inl ?_)
      rw [e2]
      simp only [DataW.weights]
      exact List.mem_singleton.2 rfl
    rcases DataW.trod_slice Tryz.underlying22 f4 with ⟨hc, _⟩ | ⟨a, len, cap, elems, rest, n, hn, hc, rfl, _, hlc, hcm, hel, hi, _⟩
    · injection hc with hc
      subst hc
      exact ⟨.mk n0 n1 s2.data.toList n3 [] n5, ⟨n0, n1, s2, n3, none, 0, 0, n5⟩, rfl, GV.leaf W 0 _ n0 n1 n3 n5 s2, by
        rw [GX.rng, GX.rngs, GX.fit, GX.fits, GX.cnt, GX.cnts]
        exact ⟨⟨wf_range r1, wf_range r3, hs2, trivial⟩, ⟨by simp, trivial⟩, Nat.le_trans (bulk_aux0 _) hbk⟩⟩
    · injection hc with hc
      subst hc
      have each : ∀ i, i < len → ∃ z : GX × EV, W.cells? 0 (a.add (i * 6)) 6 = some z.2.cells ∧ GV W 0 W.heap.size z.1 z.2 ∧ z.1.rng ∧ z.1.fit ∧ ∀ e, elems[i]? = some e → z.1.cnt ≤ Rows.uptoBulk e.1 := by
        intro i hil
        have h := hi i hil
        rw [List.getElem?_eq_getElem (by omega), eE] at h
        obtain ⟨cs', h1, h2⟩ := Option.bind_eq_some_iff.1 h
        obtain ⟨x, v, rfl, hg, hr, hft, hcn⟩ := open_tree6 n cs' _ h2 (fun m hm => by
          refine hw' m (.inr ?_)
          simp only [DataW.weights, Tryz.underlying22]
          refine List.mem_cons.2 (.inr (List.mem_append.2 (.inl (mem_weightsAll2 hm (List.mem_map.2 ⟨_, List.getElem_mem _, rfl⟩)))))
          )
        refine ⟨(x, v), h1, hg, hr, hft, fun e he => ?_⟩
        rw [List.getElem?_eq_getElem (by omega)] at he
        injection he with he
        rw [← he]
        exact hcn
      obtain ⟨f, hfz⟩ := choose_lt each
      have hlen : ((List.range len).map fun i => (f i).1).length = len := by simp
      refine ⟨.mk n0 n1 s2.data.toList n3 ((List.range len).map fun i => (f i).1) n5, ⟨n0, n1, s2, n3, some a, len, cap, n5⟩, rfl, ?_, ?_, ?_, ?_⟩
      · unfold GV
        refine ⟨rfl, rfl, rfl, rfl, rfl, hlen.symm, hlc, hcm, GRow.of fun j x hx => ?_⟩
        have hj : j < len := by
          have := (List.getElem?_eq_some_iff.1 hx).1
          omega
        have hxe : (f j).1 = x := by
          rw [List.getElem?_map, List.getElem?_range hj] at hx
          simpa using hx
        subst hxe
        obtain ⟨h1, h2, _, _⟩ := hfz j hj
        have hsp : a.spot = none := by
          obtain ⟨k1, _, _⟩ := hfz 0 (by omega)
          obtain ⟨_, _, kc⟩ := World.cells?_some k1
          have h0 := World.cell?_spot (kc 0 (by omega))
          simpa [Addr.add] using h0
        obtain ⟨g, o, sp⟩ := a
        simp only at hsp
        subst hsp
        have hev := evAt_of_cells h1
        exact ⟨g, o, (f j).2, rfl, Nat.zero_le _, World.block_lt_of_cell? W _ hev.1, by rw [Nat.zero_add]; exact hev, h2⟩
      · rw [GX.rng]
        refine ⟨wf_range r1, wf_range r3, hs2, rngs_of fun x hx => ?_⟩
        obtain ⟨i, hi', rfl⟩ := List.mem_map.1 hx
        exact (hfz i (List.mem_range.1 hi')).2.2.1
      · rw [GX.fit, hlen]
        refine ⟨?_, fits_of fun x hx => ?_⟩
        · refine Nat.le_trans (Nat.mul_le_mul_right 72 (Nat.le_add_right len rest.length)) (hw' _ (.inr ?_))
          simp only [DataW.weights, Tryz.underlying22]
          refine List.mem_cons.2 (.inl ?_)
          rw [show Tryz.prog.bytesOf 24 = 72 from by kernel_rfl, List.length_map, List.length_map, hel]
        · obtain ⟨i, hi', rfl⟩ := List.mem_map.1 hx
          exact (hfz i (List.mem_range.1 hi')).2.2.2.1
      · refine Nat.le_trans ?_ hbk
        rw [GX.cnt]
        have hh := cnts_le ((List.range len).map fun i => (f i).1) (elems.map Prod.fst) (by simp [hel]) (fun i z d hz hd => by
          have hj : i < len := by
            have := (List.getElem?_eq_some_iff.1 hz).1
            omega
          rw [List.getElem?_map, List.getElem?_range hj] at hz
          rw [List.getElem?_map] at hd
          obtain ⟨e, he, rfl⟩ := Option.map_eq_some_iff.1 hd
          have hz' : (f i).1 = z := by simpa using hz
          rw [← hz']
          exact (hfz i hj).2.2.2.2 e he)
        refine Nat.le_trans (Nat.add_le_add_left hh 1) ?_
        rw [Rows.uptoBulk]
        exact bulk_aux1 _ _
  termination_by fuel => fuel

set_option maxRecDepth 20000 in
/-- An expression that came in, and its bulk. -/
theorem open_expr6 {H : Type} {enc : TypeId × Value → H} {W : World} {ts : List TypeId} {ds : List (DataW H)} (hsz : (DataW.weightsEach Tryz.prog ts ds).all (· ≤ reachBytes) = true) {j : Nat} (ht : ts[j]? = some 24)
    {cs : Array Value} {d : DataW H} {p : List MemPlace} (hd : ds[j]? = some d) (h : DataW.Trod enc Tryz.prog W 0 (fun _ => true) true 24 (.agg cs) d p) :
    ∃ (x : GX) (v : EV), (.agg cs : Value) = v.val ∧ GV W 0 W.heap.size x v ∧ x.rng ∧ x.fit ∧ x.cnt ≤ Rows.uptoBulk d := by
  obtain ⟨fuel, hf⟩ := h
  obtain ⟨x, v, hc, hg, hr, hft, hcn⟩ := open_tree6 fuel _ _ hf (fun m hm => by
    have := List.all_eq_true.1 hsz _ (DataW.weights_mem_each ht hd _ hm)
    exact of_decide_eq_true this)
  refine ⟨x, v, ?_, hg, hr, hft, hcn⟩
  have hc' : cs.toList = v.cells := hc
  rw [show cs = v.cells.toArray from by rw [← hc']]
  rfl

theorem bulk_all {H : Type} : ∀ {ds : List (DataW H)} {d : DataW H}, d ∈ ds → Rows.uptoBulk d ≤ Rows.uptoBulkAll ds
  | [], _, h => by cases h
  | e :: ds, d, h => by
    rw [Rows.uptoBulkAll]
    rcases List.mem_cons.1 h with rfl | h
    · omega
    · have := bulk_all h
      omega

theorem names_bulk {H : Type} {x : GX} {d : DataW H} {ds : List (DataW H)} (kd : Int) (hc : x.cnt ≤ Rows.uptoBulk d) (hu : Rows.uptoSmall H ds = true) (hd : d ∈ ds) : (colP kd x).length ≤ 1048576 := by
  have h1 := col_cnt kd x
  have h2 := bulk_all hd
  have h3 : Rows.uptoBulkAll ds ≤ 1048576 := of_decide_eq_true hu
  omega

end Go.Proofs.YthgodhojhajahaaGreatDoor
