/-
  The program's evaluator: an environment in memory, its variables and states, an expression's value.
-/
import Derived.Test.YthgodhojhajahaaGreatDoorVaP
import Derived.Test.YthgodhojhajahaaGreatDoorVaO
import Derived.Test.YthgodhojhajahaaGreatDoorXF
import Derived.Lib.SlicesS
namespace Go.Proofs.YthgodhojhajahaaGreatDoor
open Go.RowKit

/-- An environment's three cells, as a value. -/
structure NV where
  nA : Option Addr
  nL : Nat
  nC : Nat
  mA : Option Addr
  mL : Nat
  mC : Nat
  aA : Option Addr
  aL : Nat
  aC : Nat

def NV.val (e : NV) : Value := .agg #[.slice e.nA e.nL e.nC, .slice e.mA e.mL e.mC, .slice e.aA e.aL e.aC]

def bstr (xs : List ByteArray) : List (List UInt8) := xs.map fun s => s.data.toList
def envP (xs zs : List ByteArray) (ns : List Int) : EnvP := ⟨bstr xs, ns, bstr zs⟩

/-- A value is that environment. -/
structure NvIs (w : World) (e : NV) (xs zs : List ByteArray) (ns : List Int) : Prop where
  nl : xs.length = e.nL
  ml : ns.length = e.mL
  al : zs.length = e.aL
  nc : e.nL ≤ e.nC ∧ e.nC ≤ maxLen
  mc : e.mL ≤ e.mC ∧ e.mC ≤ maxLen
  ac : e.aL ≤ e.aC ∧ e.aC ≤ maxLen
  nm : StrAt w e.nA xs
  ms : IntAt w e.mA ns
  as_ : StrAt w e.aA zs

theorem NvIs.below {w w' : World} {e : NV} {xs zs : List ByteArray} {ns : List Int} (h : NvIs w e xs zs ns) (hb : Below w.heap.size w w') : NvIs w' e xs zs ns :=
  ⟨h.nl, h.ml, h.al, h.nc, h.mc, h.ac, h.nm.below hb, h.ms.below hb, h.as_.below hb⟩

/-- Its block. -/
def EnB (T : TypeId) (w : World) (g : Nat) (e : NV) : Prop := w.heap[g]? = some (.cells #[.slice e.nA e.nL e.nC, .slice e.mA e.mL e.mC, .slice e.aA e.aL e.aC] T (0, 0))

section
variable {T : TypeId} {w w' : World} {g : Nat} {e : NV}
theorem EnB.lt (h : EnB T w g e) : g < w.heap.size := by
  rcases Nat.lt_or_ge g w.heap.size with hlt | hge
  · exact hlt
  · unfold EnB at h; rw [Array.getElem?_eq_none hge] at h; cases h
theorem EnB.c0 (h : EnB T w g e) : w.cell? ⟨g, 0, none⟩ = some (.slice e.nA e.nL e.nC) := cell_of_row w g 0 _ _ _ h
theorem EnB.c1 (h : EnB T w g e) : w.cell? ⟨g, 1, none⟩ = some (.slice e.mA e.mL e.mC) := cell_of_row w g 1 _ _ _ h
theorem EnB.c2 (h : EnB T w g e) : w.cell? ⟨g, 2, none⟩ = some (.slice e.aA e.aL e.aC) := cell_of_row w g 2 _ _ _ h
theorem EnB.fr (h : EnB T w g e) (i : Nat) : w.frozen? ⟨g, i, none⟩ = false := by
  unfold EnB at h
  simp [World.frozen?, h]
theorem EnB.below (h : EnB T w g e) (hb : Below w.heap.size w w') : EnB T w' g e := (hb.block g h.lt).trans h
theorem EnB.alloc (h : EnB T w g e) (o : Obj) : EnB T (w.alloc o) g e := (Below.heap_alloc w o g h.lt).trans h
theorem EnB.new (T : TypeId) (w : World) (e : NV) : EnB T (w.alloc (.cells #[.slice e.nA e.nL e.nC, .slice e.mA e.mL e.mC, .slice e.aA e.aL e.aC] T)) w.heap.size e := heap_alloc_new w _
end

theorem barr_inj {s t : ByteArray} (h : s.data.toList = t.data.toList) : s = t := by
  cases s; cases t
  simp only at h
  rw [Array.toList_inj.1 h]

theorem look_idx (s : ByteArray) : ∀ (xs : List ByteArray) (ns : List Int) (i : Nat),
    (Lib.idxFromS xs s i = -1 ∧ lookP s.data.toList (bstr xs) ns = (0, 23)) ∨ ∃ k : Nat, Lib.idxFromS xs s i = ((i + k : Nat) : Int) ∧ ((ns.length ≤ k ∧ lookP s.data.toList (bstr xs) ns = (0, 23)) ∨ ∃ n, ns[k]? = some n ∧ lookP s.data.toList (bstr xs) ns = (n, 0))
  | [], ns, i => .inl ⟨rfl, rfl⟩
  | x :: xs, ns, i => by
    have e : bstr (x :: xs) = x.data.toList :: bstr xs := rfl
    rw [e]
    unfold lookP Lib.idxFromS
    by_cases c : x = s
    · rw [if_pos c, if_pos (by rw [c])]
      refine .inr ⟨0, by simp, ?_⟩
      cases ns with
      | nil => exact .inl ⟨Nat.le_refl _, rfl⟩
      | cons n ns => exact .inr ⟨n, rfl, rfl⟩
    · rw [if_neg c, if_neg (fun h => c (barr_inj h))]
      rcases look_idx s xs ns.tail (i + 1) with h | ⟨k, h1, h2⟩
      · exact .inl h
      · refine .inr ⟨k + 1, by rw [h1]; congr 1; omega, ?_⟩
        rcases h2 with ⟨h2, h3⟩ | ⟨n, h2, h3⟩
        · refine .inl ⟨?_, h3⟩
          rw [List.length_tail] at h2
          omega
        · refine .inr ⟨n, ?_, h3⟩
          cases ns with
          | nil => simp at h2
          | cons m ns => simpa using h2

theorem mem_bstr (s : ByteArray) (xs : List ByteArray) : s.data.toList ∈ bstr xs ↔ s ∈ xs := by
  unfold bstr
  rw [List.mem_map]
  constructor
  · rintro ⟨t, ht, h⟩
    rw [← barr_inj h]
    exact ht
  · exact fun h => ⟨s, h, rfl⟩

theorem drop_none {α : Type} {l : List α} {i : Nat} (h : l.length ≤ i) : l.drop i = [] := List.drop_eq_nil_of_le h
theorem drop_at {α : Type} {l : List α} {i : Nat} {x : α} (h : l[i]? = some x) : l.drop i = x :: l.drop (i + 1) := by
  obtain ⟨hl, he⟩ := List.getElem?_eq_some_iff.1 h
  rw [List.drop_eq_getElem_cons hl, he]

theorem idx_cons (x s : ByteArray) (xs : List ByteArray) (i : Nat) : Lib.idxFromS (x :: xs) s i = if (s.toList == x.toList) = true then (i : Int) else Lib.idxFromS xs s (i + 1) := by
  by_cases c : x = s
  · rw [Lib.idxFromS, if_pos c, c, if_pos (beq_self_eq_true _)]
  · rw [Lib.idxFromS, if_neg c, if_neg]
    intro h
    refine c (barr_inj ?_)
    have h' := eq_of_beq h
    rw [Lib.toList_data, Lib.toList_data] at h'
    exact h'.symm

set_option maxHeartbeats 400000 in
set_option maxRecDepth 20000 in
theorem sindex_any (w : World) (A : Option Addr) (n c : Nat) (xs : List ByteArray) (s : ByteArray) (hl : xs.length = n) (hc : n ≤ c ∧ c ≤ maxLen) (hA : StrAt w A xs) :
    Calls Tryz.prog 54 #[.slice A n c, .string s] w fun e w' => e = .returned (.int .i64 (Lib.idxOfS xs s)) ∧ w' = w := by
  have HA := Lib.hid hA
  have HL := Lib.hid hl
  have HC : Hid (n ≤ 9223372036854775807) := by
    have h1 := hc.1
    have h2 := hc.2
    unfold maxLen at h2
    exact Nat.le_trans h1 (by omega)
  obtain ⟨R, hR⟩ : ∃ R, Lib.idxOfS xs s = R := ⟨_, rfl⟩
  have HR := Lib.hid hR
  rw [hR]
  clear hA hl hc hR
  go_enter Tryz.func54, Tryz.ntmps54
  go_wp2_with fail
  go_loopw [8] (fun iv wr => ∃ i : Nat, i ≤ n ∧ iv = .int .i64 (i : Int) ∧ Hid (wr = w) ∧ Hid (Lib.idxFromS (xs.drop i) s i = R)) (fun iv _ => n - (intOf iv).toNat)
  case atStart => exact ⟨0, Nat.zero_le _, rfl, Lib.hid rfl, HR⟩
  case round =>
    obtain ⟨i, hi, rfl, HW, HI⟩ := hrel
    obtain rfl : wr = w := HW.out
    by_cases him : i < n
    · have HIM := Lib.hid him
      have him' : (i : Int) < n := by omega
      obtain ⟨x, hx⟩ : ∃ x, xs[i]? = some x := ⟨_, List.getElem?_eq_getElem (by rw [HL.out]; exact him)⟩
      obtain ⟨g, o, rfl, _, x0⟩ := HA.out i x hx
      have hs := HI.out
      rw [drop_at hx, idx_cons] at hs
      obtain ⟨d, hd⟩ : ∃ d, (s.toList == x.toList) = d := ⟨_, rfl⟩
      rw [hd] at hs
      have HS := Lib.hid hs
      clear hs hx
      cases d
      · have HS2 : Hid (Lib.idxFromS (xs.drop (i + 1)) s (i + 1) = R) := by
          have := HS.out
          rw [if_neg (by decide)] at this
          exact this
        clear HS
        go_wp2_with fail
        exact ⟨⟨i + 1, by have := HIM.out; omega, by have h1 := HIM.out; have h2 := HC.out; rw [Go.IntWalk.wrap64_in _ ⟨by omega, by omega⟩]; rfl, Lib.hid trivial, HS2⟩, by have h1 := HIM.out; have h2 := HC.out; rw [Go.IntWalk.wrap64_in _ ⟨by omega, by omega⟩]; simp [intOf]; omega⟩
      · have HS2 : Hid ((i : Int) = R) := by
          have := HS.out
          rw [if_pos rfl] at this
          exact this
        clear HS
        go_wp2_with fail
        go_ret
        exact ⟨by rw [← HS2.out]; rfl, rfl⟩
    · have him' : ¬ (i : Int) < n := by omega
      have HS2 : Hid ((-1 : Int) = R) := by
        have := HI.out
        rw [drop_none (by rw [HL.out]; omega)] at this
        exact this
      go_wp2_with fail
      go_ret
      exact ⟨by rw [← HS2.out]; rfl, rfl⟩

set_option maxRecDepth 20000 in
theorem scontains_any (w : World) (A : Option Addr) (n c : Nat) (xs : List ByteArray) (s : ByteArray) (hl : xs.length = n) (hc : n ≤ c ∧ c ≤ maxLen) (hA : StrAt w A xs) :
    Calls Tryz.prog 55 #[.slice A n c, .string s] w fun e w' => e = .returned (.bool (decide (s.data.toList ∈ bstr xs))) ∧ w' = w := by
  have HI := Lib.hid (sindex_any w A n c xs s hl hc hA)
  have hm : (0 ≤ Lib.idxOfS xs s) ↔ s.data.toList ∈ bstr xs := by rw [mem_bstr, Lib.idxOfS_nonneg_iff]
  obtain ⟨R, hR⟩ : ∃ R, Lib.idxOfS xs s = R := ⟨_, rfl⟩
  rw [hR] at HI hm
  obtain ⟨d, hd⟩ : ∃ d, decide (s.data.toList ∈ bstr xs) = d := ⟨_, rfl⟩
  have hq : decide (0 ≤ R) = d := by rw [← hd]; exact decide_eq_decide.2 hm
  rw [hd]
  clear hm hd hR
  have HQ := Lib.hid hq
  clear hl hc hA
  go_enter Tryz.func55, Tryz.ntmps55
  go_wp2_with fail
  refine HI.out.mono ?_
  rintro e w' ⟨rfl, rfl⟩
  go_wp2_with fail
  go_ret
  exact ⟨by first | rfl | (rw [← HQ.out]; rfl) | simp, rfl⟩

set_option maxHeartbeats 400000 in
set_option maxRecDepth 20000 in
theorem variable_any (w : World) (g : Nat) (e : NV) (xs zs : List ByteArray) (ns : List Int) (s : ByteArray) (hE : EnB 50 w g e) (hN : NvIs w e xs zs ns) :
    Calls Tryz.prog 31 #[.pointer (some ⟨g, 0, none⟩), .string s] w fun r w' => r = .returned (.tuple #[.int .i64 (lookP s.data.toList (bstr xs) ns).1, .int .i64 (lookP s.data.toList (bstr xs) ns).2]) ∧ w' = w := by
  have HI := Lib.hid (sindex_any w e.nA e.nL e.nC xs s hN.nl hN.nc hN.nm)
  have c0 := hE.c0
  have c1 := hE.c1
  have hk := look_idx s xs ns 0
  have HM := Lib.hid hN.ms
  have HL := Lib.hid hN.ml
  have HC : Hid (e.mL ≤ 9223372036854775807) := by
    have h1 := hN.mc.1
    have h2 := hN.mc.2
    unfold maxLen at h2
    exact Nat.le_trans h1 (by omega)
  obtain ⟨⟨N, E⟩, hNE⟩ : ∃ R, lookP s.data.toList (bstr xs) ns = R := ⟨_, rfl⟩
  rw [hNE] at hk ⊢
  obtain ⟨R, hR⟩ : ∃ R, Lib.idxOfS xs s = R := ⟨_, rfl⟩
  rw [hR] at HI
  have hR' : Lib.idxFromS xs s 0 = R := hR
  rw [hR'] at hk
  clear hNE hR hR' hE hN
  obtain ⟨nA, nL, nC, mA, mL, mC, aA, aL, aC⟩ := e
  simp only at c0 c1 HM HL HC HI
  rcases hk with ⟨hr, he⟩ | ⟨k, hr, ⟨hlen, he⟩ | ⟨m, hm, he⟩⟩
  · injection he with he1 he2
    subst hr he1 he2
    go_enter Tryz.func31, Tryz.ntmps31
    go_wp2_with fail
    refine HI.out.mono ?_
    rintro e w' ⟨rfl, rfl⟩
    go_wp2_with fail
    go_ret2
    exact ⟨rfl, rfl⟩
  · injection he with he1 he2
    rw [Nat.zero_add] at hr
    subst hr he1 he2
    have q1 : ¬ (k : Int) < 0 := by omega
    have q2 : decide (mL ≤ k) = true := by rw [← HL.out]; exact decide_eq_true hlen
    have q3 : mL ≤ k := by rw [← HL.out]; exact hlen
    go_enter Tryz.func31, Tryz.ntmps31
    go_wp2_with fail
    refine HI.out.mono ?_
    rintro e w' ⟨rfl, rfl⟩
    go_wp2_with fail
    go_ret2
    exact ⟨rfl, rfl⟩
  · injection he with he1 he2
    rw [Nat.zero_add] at hr
    obtain ⟨go, o, rfl, _, x0⟩ := HM.out k m hm
    subst hr he1 he2
    have hlt : k < mL := by rw [← HL.out]; exact (List.getElem?_eq_some_iff.1 hm).1
    have q1 : ¬ (k : Int) < 0 := by omega
    have q2 : decide (mL ≤ k) = false := decide_eq_false (by omega)
    have q3 : ¬ mL ≤ k := by omega
    have q4 : (k : Int) < mL := by omega
    clear hm
    go_enter Tryz.func31, Tryz.ntmps31
    go_wp2_with fail
    refine HI.out.mono ?_
    rintro e w' ⟨rfl, rfl⟩
    go_wp2_with fail
    go_ret2
    exact ⟨rfl, rfl⟩

set_option maxRecDepth 20000 in
theorem in_any (w : World) (g : Nat) (e : NV) (xs zs : List ByteArray) (ns : List Int) (s : ByteArray) (hE : EnB 50 w g e) (hN : NvIs w e xs zs ns) :
    Calls Tryz.prog 32 #[.pointer (some ⟨g, 0, none⟩), .string s] w fun r w' => r = .returned (.int .i64 (if s.data.toList ∈ bstr zs then 1 else 0)) ∧ w' = w := by
  have HI := Lib.hid (scontains_any w e.aA e.aL e.aC zs s hN.al hN.ac hN.as_)
  have c2 := hE.c2
  clear hE hN
  by_cases c : s.data.toList ∈ bstr zs
  · rw [decide_eq_true c] at HI
    rw [if_pos c]
    clear c
    go_enter Tryz.func32, Tryz.ntmps32
    go_wp2_with fail
    refine HI.out.mono ?_
    rintro e w' ⟨rfl, rfl⟩
    go_wp2_with fail
    go_ret
    exact ⟨rfl, rfl⟩
  · rw [decide_eq_false c] at HI
    rw [if_neg c]
    clear c
    go_enter Tryz.func32, Tryz.ntmps32
    go_wp2_with fail
    refine HI.out.mono ?_
    rintro e w' ⟨rfl, rfl⟩
    go_wp2_with fail
    go_ret
    exact ⟨rfl, rfl⟩

end Go.Proofs.YthgodhojhajahaaGreatDoor
