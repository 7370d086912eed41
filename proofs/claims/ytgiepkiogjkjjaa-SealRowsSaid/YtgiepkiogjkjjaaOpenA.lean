/-
  What Open calls of the library: bytes.Equal and bytes.Clone; what a frame at the front is, as a plain function.
-/
import Derived.Test.YtgiepkiogjkjjaaClose
import Derived.Lib.Bytes
import Derived.Lib.LazyBuf
namespace Go.Proofs.Ytgiepkiogjkjjaa
open Go.RowKit

/-- A piece of a source. -/
theorem Src.sub {w : World} {b off len cap : Nat} {bs : List Int} (h : Src w (some ⟨b, off, none⟩) len cap bs) (k n : Nat) (hk : k + n ≤ len) : Src w (some ⟨b, off + k, none⟩) n (cap - k) ((bs.drop k).take n) where
  reads := by
    have hs := h.size
    by_cases hn : n = 0
    · subst hn; exact .inl (by simp)
    · rcases h.reads with h0 | ⟨b2, o2, ha, hc⟩
      · subst h0; simp at hs; omega
      · simp only [Option.some.injEq, Addr.mk.injEq, and_true] at ha
        obtain ⟨rfl, rfl⟩ := ha
        refine .inr ⟨b, off + k, rfl, fun i hi => ?_⟩
        have hi2 : i < n := by simp at hi; omega
        rw [Nat.add_assoc, hc (k + i) (by omega)]
        simp [List.getD, hi2]
  size := by have := h.size; simp; omega
  small := by have := h.small; omega
  caps := ⟨by have := h.caps; omega, by have := h.caps; omega⟩
  bytes := fun x hx => h.bytes x (List.mem_of_mem_drop (List.mem_of_mem_take hx))

theorem str_inj : ∀ {xs ys : List Int}, (∀ x ∈ xs, 0 ≤ x ∧ x < 256) → (∀ x ∈ ys, 0 ≤ x ∧ x < 256) → xs.map (fun n => UInt8.ofNat n.toNat) = ys.map (fun n => UInt8.ofNat n.toNat) → xs = ys := by
  intro xs
  induction xs with
  | nil => intro ys _ _ h; cases ys with
    | nil => rfl
    | cons y ys => simp at h
  | cons x xs ih =>
    intro ys hx hy h
    cases ys with
    | nil => simp at h
    | cons y ys =>
      simp only [List.map_cons, List.cons.injEq] at h
      have h1 := hx x (by simp)
      have h2 := hy y (by simp)
      have e := ih (fun z hz => hx z (by simp [hz])) (fun z hz => hy z (by simp [hz])) h.2
      have e1 := congrArg UInt8.toNat h.1
      simp at e1
      rw [e]
      congr 1
      omega

theorem str_eq (xs ys : List Int) (hx : ∀ x ∈ xs, 0 ≤ x ∧ x < 256) (hy : ∀ x ∈ ys, 0 ≤ x ∧ x < 256) : ((strOfNums xs).toList == (strOfNums ys).toList) = decide (xs = ys) := by
  rw [Lib.strOfNums_toList, Lib.strOfNums_toList, Bool.eq_iff_iff, beq_iff_eq, decide_eq_true_iff]
  exact ⟨fun h => str_inj hx hy h, fun h => by rw [h]⟩

set_option maxRecDepth 20000 in
theorem equal_any (w : World) (a b : Option Addr) (l1 c1 l2 c2 : Nat) (xs ys : List Int) (hx : Src w a l1 c1 xs) (hy : Src w b l2 c2 ys) :
    Calls Try.prog 33 #[.slice a l1 c1, .slice b l2 c2] w fun e w' => e = .returned (.bool (decide (xs = ys))) ∧ w = w' := by
  have s1 := hx.front l1 c1 (Nat.le_refl _)
  have s2 := hy.front l2 c2 (Nat.le_refl _)
  rw [List.take_of_length_le (by rw [hx.size]; exact Nat.le_refl _)] at s1
  rw [List.take_of_length_le (by rw [hy.size]; exact Nat.le_refl _)] at s2
  have hd : ((strOfNums xs).toList == (strOfNums ys).toList) = decide (xs = ys) := str_eq xs ys hx.bytes hy.bytes
  generalize decide (xs = ys) = d at *
  clear hx hy
  go_enter Try.func33, Try.ntmps33
  go_wp2_with fail
  go_ret
  exact ⟨rfl, rfl⟩

set_option maxRecDepth 20000 in
theorem clone_any (w : World) (x : Addr) (len cap : Nat) (bs : List Int) (h : Src w (some x) len cap bs) (hl : len ≤ 100000000000) :
    Calls Try.prog 34 #[.slice (some x) len cap] w fun e w' => ∃ v, e = .returned v ∧ w'.ownsRow w.heap.size 5 1 v bs.length (bs.map (Value.int .u8)) ∧ Below w.heap.size w w' := by
  have H := Lib.hid h
  have hnn := run_eql_slice_nil (P := Try.prog) w 22 5 (some x) len cap Try.underlying22
  simp only [Option.isNone] at hnn
  clear h
  go_enter Try.func34, Try.ntmps34
  go_wp2_with (at_builtin; refine wpl_append_src rfl (.tmp 5) (.tmp 6) rfl w.heap.size _ 0 [] rfl (ownsRow_empty w) _ _ cap _ (H.out.alloc _) (fun h => by cases h) rfl (by omega) (by simp) ?_)
  intro v5 w5 own5 gr5
  have HO5 : Hid (w5.ownsRow w.heap.size 5 1 v5 bs.length (bs.map (Value.int .u8))) := by
    rw [H.out.size]
    simpa [Hid] using own5
  have HG5 := Lib.hid ((((Below.refl w.heap.size w).alloc (Nat.le_refl _) _).grown gr5 (by simp) (fun k h => ((ownsRow_empty w).lt k h).1)))
  clear own5 gr5
  go_wp2_with fail
  go_ret
  exact ⟨_, rfl, HO5.out, HG5.out⟩

/-- Which frame bytes begin with: its payload, its length, what is wrong first. -/
def opF (bs : List Int) : List Int × Nat × Int :=
  let r := tkF M63 true 0 0 bs
  if r.2.2 ≠ 0 then ([], 0, r.2.2) else if 1048576 < r.1 then ([], 0, 2) else if bs.length < r.2.1 + r.1 + 4 then ([], 0, 3)
  else if (bs.drop (r.2.1 + r.1)).take 4 = be4 (crcN (bs.take (r.2.1 + r.1))) then ((bs.drop r.2.1).take r.1, r.2.1 + r.1 + 4, 0) else ([], 0, 5)

end Go.Proofs.Ytgiepkiogjkjjaa
