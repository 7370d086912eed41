/-
  The decoder's list, and TakeInts.
-/
import Derived.Test.YtkjcdndlhjacfaaText
namespace Go.Proofs.Ytkjcdndlhjacfaa
open Go.RowKit

theorem infoI64 : (Try.prog.info? 3).map (fun i => (i.zero, i.size, i.bytes)) = some (some (.int .i64 0), 1, 8) := by kernel_rfl

/-- A row of int that is the call's own: its first numbers, then as many zeros as are left. -/
def rowOf (vs : List Int) (n : Nat) : List Value := (vs ++ List.replicate n 0).map (Value.int .i64)

theorem rowOf_set (vs : List Int) (n : Nat) (x : Int) : (rowOf vs (n + 1)).set vs.length (.int .i64 x) = rowOf (vs ++ [x]) n := by
  unfold rowOf
  rw [← List.map_set]
  congr 1
  rw [List.set_append_right _ _ (Nat.le_refl _)]
  simp [List.replicate_succ]

theorem rowOf_len (vs : List Int) (n : Nat) : (rowOf vs n).length = vs.length + n := by simp [rowOf]

theorem grownBy_trans {a b c : World} {row : Option Nat} (h : a.grownBy b row) (k : b.grownBy c row) : a.grownBy c row :=
  ⟨k.os.trans h.os, k.tape.trans h.tape, k.output.trans h.output, Nat.le_trans h.size k.size, fun i hi hn => (k.block i (Nat.lt_of_lt_of_le hi h.size) hn).trans (h.block i hi hn)⟩

/-- What may become of a world whose block B is written while blocks from G on come and are written. -/
def Grows (B G : Nat) (w w' : World) : Prop :=
  w'.os = w.os ∧ w'.tape = w.tape ∧ w'.output = w.output ∧ w.heap.size ≤ w'.heap.size ∧ ∀ k, k < G → k ≠ B → w'.heap[k]? = w.heap[k]?

theorem Grows.refl (B G : Nat) (w : World) : Grows B G w w := ⟨rfl, rfl, rfl, Nat.le_refl _, fun _ _ _ => rfl⟩
theorem Grows.trans {B G : Nat} {a b c : World} (h : Grows B G a b) (k : Grows B G b c) : Grows B G a c :=
  ⟨k.1.trans h.1, k.2.1.trans h.2.1, k.2.2.1.trans h.2.2.1, Nat.le_trans h.2.2.2.1 k.2.2.2.1, fun i hi hn => (k.2.2.2.2 i hi hn).trans (h.2.2.2.2 i hi hn)⟩
theorem Only.grows {B G : Nat} {a b : World} (h : Only B a b) (hG : G ≤ a.heap.size) : Grows B G a b :=
  ⟨h.1.os, h.1.tape, h.1.output, h.1.size, fun k hk hn => h.1.block k (by omega) (by simpa using hn)⟩
theorem Grows.of_own {B G g : Nat} {a b : World} (h : a.grownBy b (some g)) (hg : G ≤ g) (hG : G ≤ a.heap.size) : Grows B G a b :=
  ⟨h.os, h.tape, h.output, h.size, fun k hk _ => h.block k (by omega) (by simp; omega)⟩
theorem Grows.of_new {B G : Nat} {a b : World} (h : a.grownBy b none) (hG : G ≤ a.heap.size) : Grows B G a b :=
  ⟨h.os, h.tape, h.output, h.size, fun k hk _ => h.block k (by omega) (by simp)⟩
theorem DecAt.grownBy {w w' : World} {B : Nat} {a c : Int} {s : Value} {row : Option Nat} (h : DecAt w B a c s) (hg : w.grownBy w' row) (hn : some B ≠ row) : DecAt w' B a c s := by
  unfold DecAt
  rw [hg.block B h.lt hn]
  exact h

/-- What TakeInts tells of a list: nothing beside an error; else a row of the call's own. -/
def ListIs (w' : World) (G : Nat) (v : Value) (T : List Int × Nat × Int) : Prop :=
  (T.2.2 ≠ 0 ∧ v = .slice none 0 0) ∨ (T.2.2 = 0 ∧ ∃ g, v = .slice (some ⟨g, 0, none⟩) T.1.length T.1.length ∧ w'.ownsRow G 3 1 v T.1.length (T.1.map (Value.int .i64)))

theorem Reads.grows {w w' : World} {a : Option Addr} {bs : List Int} {B : Nat} (h : Reads w a bs) (ho : Grows B w.heap.size w w') (hB : bs ≠ [] → ∀ b off, a = some ⟨b, off, none⟩ → b ≠ B) : Reads w' a bs := by
  rcases h with h | ⟨b, off, ha, hc⟩
  · exact .inl h
  · have hne : bs ≠ [] ∨ bs = [] := by cases bs <;> simp
    rcases hne with hne | hne
    rotate_left
    · exact .inl hne
    refine .inr ⟨b, off, ha, fun i hi => ?_⟩
    have h1 := hc i hi
    have h2 := World.block_lt_of_cell? w _ h1
    rw [← h1]
    exact World.cell?_of_block (w := w) (ho.2.2.2.2 b h2 (hB hne b off ha))

theorem rowOf_at (vs : List Int) (n : Nat) : (rowOf vs (n + 1))[vs.length]? = some (.int .i64 0) := by
  unfold rowOf
  rw [List.getElem?_map, List.getElem?_append_right (Nat.le_refl _)]
  simp

set_option maxHeartbeats 1600000 in
set_option maxRecDepth 20000 in
theorem list_any (w : World) (B at0 : Nat) (a : Option Addr) (len cap : Nat) (bs : List Int) (h : Dec w B at0 a len cap bs) :
    Calls Try.prog 38 #[.pointer (some ⟨B, 0, none⟩)] w fun e w' =>
      ∃ v, e = .returned v ∧ ListIs w' w.heap.size v (liF at0 bs) ∧ DecAt w' B ((liF at0 bs).2.1 : Nat) (liF at0 bs).2.2 (.slice a len cap) ∧ Grows B w.heap.size w w' := by
  have HV := Lib.hid (size_any w B at0 a len cap bs 4096 h)
  have H := Lib.hid h
  clear h
  have ht := szF_told 4096 at0 (bs.drop at0)
  obtain ⟨T, hT⟩ : ∃ T, T = liF at0 bs := ⟨_, rfl⟩
  rw [← hT]
  unfold liF at hT
  generalize szF 4096 at0 (bs.drop at0) = r at *
  obtain ⟨v, q, c⟩ := r
  simp only at hT ht HV
  have HTT := Lib.hid hT
  clear hT
  obtain ⟨i0, hi, hz0, hz1, hz2⟩ := info_parts infoI64
  rcases ht with ⟨rfl, h1, h2, h3⟩ | ⟨hc, rfl, rfl⟩
  · have hq : q ≤ len := by have := H.out.size; have := H.out.pos; simp at h2; omega
    have HT2 : Hid (T = onF [] (lsF bs v q)) := by
      have e := HTT.out
      rw [if_neg (by simp)] at e
      rw [onF_nil bs v q (by have := H.out.size; omega)]
      exact e
    clear HTT h2
    go_enter Try.func38, Try.ntmps38
    go_wp2_with fail
    refine HV.out.mono ?_
    rintro e w1 ⟨rfl, hd, ho⟩
    have HD := Lib.hid hd
    clear hd
    go_wp2_with fail
    refine (failed_any _ B _ _ _ HD.out).mono ?_
    rintro e w2 ⟨rfl, rfl⟩
    go_wp2_with (at_make; refine wpList_make_full _ rfl _ _ 38 rfl w1.heap.size 3 i0 (.int .i64 0) 1 Try.underlying38 hi hz0 hz1 _ _ _ _ v rfl rfl rfl rfl (by rw [hz2]; omega) (by unfold maxLen; omega) (Nat.le_refl _) ?_)
    intro w2 hown hgrow
    have HO := Lib.hid hown
    have HD2 := Lib.hid (HD.out.grownBy hgrow (by simp))
    have HG := Lib.hid ((ho.grows (Nat.le_refl _)).trans (Grows.of_new hgrow (by have := ho.2; omega)))
    have hg := ho.2
    have hBg : B < w1.heap.size := by have := HD.out.lt; omega
    clear hown hgrow ho
    go_wp2_with fail
    obtain ⟨g0, hg0⟩ : ∃ g0, g0 = w1.heap.size := ⟨_, rfl⟩
    rw [← hg0] at HO hBg ⊢
    have HG0 := Lib.hid hg0
    have HGW : Hid (g0 = w.heap.size) := hg0.trans hg
    clear hg0 hg
    go_loopw [16] (fun s wr => ∃ (k p : Nat) (vs : List Int), k ≤ v ∧ s = .int .i64 (k : Int) ∧ Hid (vs.length = k) ∧ p ≤ len ∧ Hid (DecAt wr B p 0 (.slice a len cap)) ∧
        Hid (wr.ownsRow g0 3 1 (.slice (some ⟨g0, 0, none⟩) v v) v (rowOf vs (v - k))) ∧ Hid (Grows B w.heap.size w wr) ∧ Hid (T = onF vs (lsF bs (v - k) p)))
      (fun s _ => v - (intOf s).toNat)
    case atStart =>
      refine ⟨0, q, [], Nat.zero_le _, rfl, rfl, hq, HD2, ?_, HG, HT2⟩
      have e := HO.out
      unfold Hid
      have e2 : (madeCells #[Value.int .i64 0] v).toList = rowOf [] (v - 0) := by
        rw [toList_madeCells_one]; simp [rowOf]
      rw [← e2]
      exact e
    case round =>
      obtain ⟨k, p, vs, hk, rfl, hvs, hp, hdr, hor, hgr, htk⟩ := hrel
      by_cases hlt : k < v
      · have hdec : Hid (Dec wr B p a len cap bs) := ⟨hdr.out, H.out.reads.grows hgr.out H.out.apart, H.out.size, hp, H.out.small, H.out.caps, H.out.bytes, H.out.apart⟩
        have hiv := Lib.hid (integer_any wr B p a len cap bs hdec.out)
        have hnk : v - k = v - (k + 1) + 1 := by omega
        have htold := tkF_told (most := M64) (bs.drop p) true 0 p
        have hstep : Hid (((tkF M64 true 0 p (bs.drop p)).2.2 ≠ 0 → T = ([], 0, (tkF M64 true 0 p (bs.drop p)).2.2)) ∧ ((tkF M64 true 0 p (bs.drop p)).2.2 = 0 →
            T = onF (vs ++ [unf (tkF M64 true 0 p (bs.drop p)).1]) (lsF bs (v - (k + 1)) (tkF M64 true 0 p (bs.drop p)).2.1))) := by
          have e := htk.out
          rw [hnk] at e
          exact ⟨fun h => e.trans (onF_bad h), fun h => e.trans (onF_good h)⟩
        clear htk
        have HR : Hid (rowOf vs (v - k) = rowOf vs (v - (k + 1) + 1)) := by unfold Hid; rw [← hnk]
        clear hnk
        generalize tkF M64 true 0 p (bs.drop p) = r at *
        obtain ⟨rv, rq, rc⟩ := r
        simp only at htold hstep hiv
        go_wp2_with fail
        refine hiv.out.mono ?_
        rintro e w3 ⟨rfl, hd3, ho3⟩
        have HD3 := Lib.hid hd3
        have HO3 := Lib.hid (hor.out.kept ho3.1 (.inr (by simp [Value.ownBlock]; omega)))
        have HG3 := Lib.hid (hgr.out.trans (ho3.grows hgr.out.2.2.2.1))
        clear hd3 ho3
        have hck : w3.cell? ⟨g0, k, none⟩ = some (.int .i64 0) := by
          rw [HO3.out.cellAt k (by omega), HR.out, ← hvs.out, rowOf_at]
        have hfz : w3.frozen? ⟨g0, k, none⟩ = false := HO3.out.frozenAt k
        obtain ⟨ow4, gr4⟩ := HO3.out.stored k (.int .i64 (unf rv))
        have HO4 : Hid ((w3.setCell ⟨g0, k, none⟩ (.int .i64 (unf rv))).ownsRow g0 3 1 (.slice (some ⟨g0, 0, none⟩) v v) v (rowOf (vs ++ [unf rv]) (v - (k + 1)))) := by
          rw [HR.out, ← hvs.out, rowOf_set] at ow4
          rw [← hvs.out]
          exact ow4
        have HD4 := Lib.hid (HD3.out.grownBy gr4 (by simp; omega))
        have HG4 := Lib.hid (HG3.out.trans (Grows.of_own gr4 (by have := HGW.out; omega) HG3.out.2.2.2.1))
        clear ow4 gr4
        go_wp2_with fail
        refine (failed_any _ B _ _ _ HD4.out).mono ?_
        rintro e w5 ⟨rfl, rfl⟩
        by_cases hrc : rc = 0
        · subst hrc
          have hn0 : ((0 : Int) != 0) = false := rfl
          have HT3 := Lib.hid (hstep.out.2 rfl)
          have hrq : rq ≤ len := by
            rcases htold with ⟨_, _, h5⟩ | ⟨h5, _⟩
            · have := H.out.size; simp at h5; omega
            · omega
          have HL : Hid ((vs ++ [unf rv]).length = k + 1) := by unfold Hid; simp [hvs.out]
          clear htold hstep
          go_wp2_with fail
          go_roundw
          case rel => exact ⟨k + 1, rq, vs ++ [unf rv], by omega, by go_num, HL, hrq, HD4, HO4, HG4, HT3⟩
          case measure => simp [intOf]; omega
        · have hn0 : (rc != 0) = true := by rw [bne_iff_ne]; exact hrc
          have HT3 := Lib.hid (hstep.out.1 hrc)
          have HQ : Hid (rq = 0) := by rcases htold with h5 | h5
                                       · exact absurd h5.1 hrc
                                       · exact h5.2.1
          clear htold hstep
          go_wp2_with fail
          go_ret
          rw [HT3.out]
          refine ⟨_, rfl, .inl ⟨hrc, rfl⟩, ?_, HG4.out⟩
          rw [← HQ.out]; exact HD4.out
      · obtain rfl : k = v := by omega
        have HT3 : Hid (T = (vs, p, 0)) := by
          have e := htk.out
          rw [Nat.sub_self] at e
          unfold Hid
          simpa [onF, lsF] using e
        clear htk
        go_wp2_with fail
        go_ret
        rw [HT3.out]
        refine ⟨_, rfl, .inr ⟨rfl, g0, ?_, ?_⟩, hdr.out, hgr.out⟩
        · simp only [hvs.out]; rfl
        · have e := hor.out
          rw [Nat.sub_self, show rowOf vs 0 = vs.map (Value.int .i64) from by simp [rowOf]] at e
          simp only [hvs.out]
          rw [← HGW.out]
          exact e
  · have HT2 : Hid (T = ([], 0, c)) := by
      have e := HTT.out
      rw [if_pos (by omega)] at e
      exact e
    have hc0 : (c != 0) = true := by rw [bne_iff_ne]; omega
    have HC : Hid (c ≠ 0) := by unfold Hid; omega
    clear HTT hc
    go_enter Try.func38, Try.ntmps38
    go_wp2_with fail
    refine HV.out.mono ?_
    rintro e w1 ⟨rfl, hd, ho⟩
    have HD := Lib.hid hd
    clear hd
    go_wp2_with fail
    refine (failed_any _ B _ _ _ HD.out).mono ?_
    rintro e w2 ⟨rfl, rfl⟩
    go_wp2_with fail
    go_ret
    rw [HT2.out]
    exact ⟨_, rfl, .inl ⟨HC.out, rfl⟩, HD.out, ho.grows (Nat.le_refl _)⟩

theorem ListIs.drawn {w : World} {G : Nat} {v : Value} {T : List Int × Nat × Int} (h : ListIs w G v T) (n : Nat) : ListIs (w.drewN n) G v T := h

theorem Grows.below {w w' : World} {o : Obj} (h : Grows w.heap.size (w.alloc o).heap.size (w.alloc o) w') : Below w.heap.size w w' :=
  ((Below.refl _ w).alloc (Nat.le_refl _) o).trans ⟨h.1, h.2.1, h.2.2.1, h.2.2.2.1, fun k hk => h.2.2.2.2 k (by simp; omega) (by omega)⟩

set_option maxRecDepth 20000 in
theorem takeInts_any (w : World) (a : Option Addr) (len cap : Nat) (bs : List Int) (h : Src w a len cap bs) :
    Calls Try.prog 26 #[.slice a len cap] w fun e w' =>
      ∃ v, e = .returned (.tuple #[v, .int .i64 ((liF 0 bs).2.1 : Nat), .int .i64 (liF 0 bs).2.2]) ∧ ListIs w' (w.heap.size + 1) v (liF 0 bs) ∧ Below w.heap.size w w' := by
  have HV := Lib.hid (list_any _ _ _ _ _ _ _ h.dec)
  clear h
  generalize liF 0 bs = r at *
  go_enter Try.func26, Try.ntmps26
  go_wp2_with fail
  refine HV.out.mono ?_
  rintro e w1 ⟨v, rfl, hl, hd, ho⟩
  have c0 := hd.c0
  have c1 := hd.c1
  have HL := Lib.hid hl
  have HO := Lib.hid ho.below
  clear hd ho HV hl
  go_wp2_with fail
  go_quiet (fail)
  go_wp2_with fail
  go_ret3
  refine ⟨v, rfl, ?_, below_drawn HO.out _⟩
  have e := HL.out.drawn
  simp only [World.size_alloc] at e
  exact e _

end Go.Proofs.Ytkjcdndlhjacfaa
