/-
  Charts in memory, as the document's Same reads them: rows of acts.
-/
import Derived.Test.YtcddbfdbhjkjgaaGreatDoorYF
import Derived.Test.YtcddbfdbhjkjgaaGreatDoorEwJ
import Derived.Test.YtcddbfdbhjkjgaaGreatDoorVaD
import Derived.Deep.QuietTactic
import Derived.BigQuiet
import Derived.StillTailTactics
namespace Go.Proofs.YtcddbfdbhjkjgaaGreatDoor
open Go.RowKit

/-- A row's cells. -/
theorem DvAt.opened {w : World} {e : TypeId} {k n : Nat} {cs : List DV} {x : Value} {F : List Nat} (h : DvAt w (.row e k n cs) x F) (hn : 0 < n) : ∃ g c, x = .slice (some ⟨g, 0, none⟩) n c ∧ n ≤ c ∧ c ≤ maxLen ∧ g < w.heap.size ∧ ∀ i d, cs[i]? = some d → ∃ v F', w.cell? ⟨g, i, none⟩ = some v ∧ DvAt w d v F' := by
  unfold DvAt at h
  obtain ⟨xs, H, ⟨h1, h2⟩, _, h3⟩ := h
  rcases h2 with ⟨_, h2⟩ | ⟨g, c, cur, hx, _, hg, hc1, hc2, hc3, hc4⟩
  · omega
  · refine ⟨g, c, hx, hc1, hc2, (Array.getElem?_eq_some_iff.1 hg).1, fun i d hi => ?_⟩
    obtain ⟨v, F', h4, h5⟩ := h3.get hi
    refine ⟨v, F', ?_, h5⟩
    rw [cell_of_row w g i _ _ _ hg]
    rw [← hc4, List.getElem?_take] at h4
    split at h4
    · simpa using h4
    · cases h4
theorem flat_get {α : Type} {f : α → List DV} {k : Nat} (hk : ∀ a, (f a).length = k) : ∀ (l : List α) (i : Nat) (a : α), l[i]? = some a → ∀ j, j < k → (l.flatMap f)[i * k + j]? = (f a)[j]?
  | [], i, a, h, _, _ => by simp at h
  | x :: l, 0, a, h, j, hj => by
    obtain rfl : x = a := by simpa using h
    rw [List.flatMap_cons, Nat.zero_mul, Nat.zero_add, List.getElem?_append_left (by rw [hk]; exact hj)]
  | x :: l, i + 1, a, h, j, hj => by
    rw [List.flatMap_cons, List.getElem?_append_right (by rw [hk, Nat.succ_mul]; omega), hk, Nat.succ_mul, show i * k + k + j - k = i * k + j from by omega]
    exact flat_get hk l i a (by simpa using h) j hj
theorem sub_gv {w : World} {o : Bool} {k n op p : Int} {s : List UInt8} {l : List GX} {x : Value} {F : List Nat} (h : DvAt w (.sub o l) x F) : ∃ v : EV, x = .slice v.A v.len v.cap ∧ v.kind = k ∧ v.num = n ∧ txV s = .string v.name ∧ v.op = op ∧ v.p = p ∧ GV w 0 w.heap.size (.mk k n s op l p) v := by
  unfold DvAt at h
  obtain ⟨lo, hi, ⟨A, c, rfl, h1, h2, h3, h4, h5⟩, _⟩ := h
  refine ⟨⟨k, n, ⟨s.toArray⟩, op, A, l.length, c, p⟩, rfl, rfl, rfl, rfl, rfl, rfl, ?_⟩
  refine ⟨rfl, rfl, rfl, rfl, rfl, rfl, h1, h2, ?_⟩
  cases o with
  | false => exact GRow.mono (Nat.zero_le _) h4 h5
  | true =>
    rcases h5 with h5 | ⟨g, cs, e, a, b, d, h⟩
    · rw [h5]; unfold GRow; trivial
    · rw [e]
      exact GRow.mono (Nat.zero_le _) h4 (GWs.grow a b (Nat.le_refl _) (Nat.le_of_lt b) h)

/-- An act of a row. -/
theorem act_at {w : World} {o : Bool} {l : List SyAct} {v : Value} {F : List Nat} (h : DvAt w (dvActs o l) v F) {i : Nat} {a : SyAct} (hi : l[i]? = some a) :
    ∃ g c ev, v = .slice (some ⟨g, 0, none⟩) l.length c ∧ l.length ≤ c ∧ c ≤ maxLen ∧ g < w.heap.size ∧ w.cell? ⟨g, i * 9, none⟩ = some (.int .i64 a.kind) ∧ w.cell? ⟨g, i * 9 + 1, none⟩ = some (txV a.name) ∧ EvAt w g (i * 9 + 2) ev ∧ GV w 0 w.heap.size (gxO a.value) ev ∧ w.cell? ⟨g, i * 9 + 8, none⟩ = some (.int .i64 a.at_) := by
  have hn : 0 < l.length := by have := (List.getElem?_eq_some_iff.1 hi).1; omega
  unfold dvActs at h
  obtain ⟨g, c, hv, h1, h2, h3, h4⟩ := h.opened hn
  have hg : ∀ j d, j < 9 → (dvAct o a)[j]? = some d → ∃ v F', w.cell? ⟨g, i * 9 + j, none⟩ = some v ∧ DvAt w d v F' := fun j d hj hd => h4 _ d (by rw [flat_get (k := 9) (fun _ => rfl) l i a hi j hj]; exact hd)
  have hp : ∀ j u, j < 9 → (dvAct o a)[j]? = some (.v u) → w.cell? ⟨g, i * 9 + j, none⟩ = some u := fun j u hj hd => by
    obtain ⟨v, F', h5, h6⟩ := hg j _ hj hd
    rw [h5, h6.v]
  obtain ⟨x, F', h5, h6⟩ := hg 6 (.sub o (gxO a.value).subs) (by decide) rfl
  obtain ⟨ev, rfl, e1, e2, e3, e4, e5, e6⟩ := sub_gv (k := (gxO a.value).kind) (n := (gxO a.value).num) (s := (gxO a.value).name) (op := (gxO a.value).op) (p := (gxO a.value).p) h6
  have p2 := hp 2 _ (by decide) rfl
  have p3 := hp 3 _ (by decide) rfl
  have p4 := hp 4 _ (by decide) rfl
  have p5 := hp 5 _ (by decide) rfl
  have p7 := hp 7 _ (by decide) rfl
  rw [← e1] at p2
  rw [← e2] at p3
  rw [e3] at p4
  rw [← e4] at p5
  rw [← e5] at p7
  refine ⟨g, c, ev, hv, h1, h2, h3, hp 0 _ (by decide) rfl, hp 1 _ (by decide) rfl, ⟨p2, p3, p4, p5, h5, p7⟩, ?_, hp 8 _ (by decide) rfl⟩
  cases hx : gxO a.value with
  | mk k n s o l p => rw [hx] at e6; exact e6

/-- Acts that agree; in their places too, if asked for. -/
def aG (pl : Bool) (a b : SyAct) : Prop := a.kind = b.kind ∧ a.name = b.name ∧ sm pl (gxO a.value) (gxO b.value) = true ∧ (pl = true → a.at_ = b.at_)
def asG (pl : Bool) (l l' : List SyAct) : Prop := l.length = l'.length ∧ ∀ (i : Nat) (a b : SyAct), l[i]? = some a → l'[i]? = some b → aG pl a b

theorem acts_slice {w : World} {o : Bool} {l : List SyAct} {v : Value} {F : List Nat} (h : DvAt w (dvActs o l) v F) : ∃ A c, v = .slice A l.length c ∧ l.length ≤ c ∧ c ≤ maxLen := by
  unfold dvActs at h
  exact h.slice

set_option maxHeartbeats 3200000 in
set_option maxRecDepth 20000 in
theorem sameacts_any (w : World) (pl o o' : Bool) (l l' : List SyAct) (v v' : Value) (F F' : List Nat) (h : DvAt w (dvActs o l) v F) (h' : DvAt w (dvActs o' l') v' F') (hs : asG pl l l') :
    Calls Tryz.prog 49 #[v, v', .bool pl] w fun e w' => e = .returned (.bool true) ∧ Below w.heap.size w w' := by
  obtain ⟨A, c, rfl, hc1, hc2⟩ := acts_slice h
  obtain ⟨A', c', rfl, hc1', hc2'⟩ := acts_slice h'
  have H := Lib.hid h
  have H' := Lib.hid h'
  have HA := Lib.hid hs.2
  obtain ⟨n, hn⟩ : ∃ n, l.length = n := ⟨_, rfl⟩
  have hn' : l'.length = n := by rw [← hs.1]; exact hn
  have HN := Lib.hid hn
  have HN' := Lib.hid hn'
  have HMX : Hid (n ≤ 9223372036854775807) := by show n ≤ _; have : maxLen ≤ 9223372036854775807 := by decide
                                                 omega
  rw [hn, hn']
  clear h h' hs hc1 hc2 hc1' hc2' hn hn'
  have q6 : ((n : Int) != n) = false := by simp [bne]
  go_enter Tryz.func49, Tryz.ntmps49
  go_wp2_with fail
  clear q6
  go_loopw [7] (fun iv wr => ∃ i : Nat, i ≤ n ∧ iv = .int .i64 (i : Int) ∧ Hid (Below w.heap.size w wr)) (fun iv _ => n - (intOf iv).toNat)
  case atStart => exact ⟨0, Nat.zero_le _, rfl, (Below.refl _ w)⟩
  case round =>
    obtain ⟨i, hi, rfl, HBW⟩ := hrel
    by_cases him : i < n
    · have HIM := Lib.hid him
      have him' : (i : Int) < n := by omega
      obtain ⟨x, hx⟩ : ∃ x, l[i]? = some x := ⟨_, List.getElem?_eq_getElem (by rw [HN.out]; exact him)⟩
      obtain ⟨y, hy⟩ : ∃ y, l'[i]? = some y := ⟨_, List.getElem?_eq_getElem (by rw [HN'.out]; exact him)⟩
      obtain ⟨a1, a2, a3, a4⟩ := HA.out i x y hx hy
      obtain ⟨g, c0, ev, hv, _, _, hg, x0, x1, hev, hgv, x8⟩ := act_at H.out hx
      obtain ⟨g', c0', ev', hv', _, _, hg', y0, y1, hev', hgv', y8⟩ := act_at H'.out hy
      obtain rfl : A = some ⟨g, 0, none⟩ := by injection hv
      obtain rfl : A' = some ⟨g', 0, none⟩ := by injection hv'
      have kb : ∀ {p : Addr} {u : Value}, w.cell? p = some u → wr.cell? p = some u := fun hc => by rw [World.cell?_of_block (HBW.out.block _ (World.block_lt_of_cell? w _ hc))]; exact hc
      obtain ⟨X, hX⟩ := str_of x.name
      obtain ⟨Y, hY⟩ := str_of y.name
      rw [hX] at x1
      rw [hY] at y1
      have X0 := Lib.hid (kb x0)
      have X1 := Lib.hid (kb x1)
      have X8 := Lib.hid (kb x8)
      have Y0 := Lib.hid (kb y0)
      have Y1 := Lib.hid (kb y1)
      have Y8 := Lib.hid (kb y8)
      obtain ⟨x2, x3, x4, x5, x6, x7⟩ := hev.same (HBW.out.block g hg)
      obtain ⟨y2, y3, y4, y5, y6, y7⟩ := hev'.same (HBW.out.block g' hg')
      have HC := Lib.hid (fun (W : World) (hb : Below w.heap.size w W) => esame_any W (gxO x.value) (gxO y.value) ev ev' pl ((GV.below hgv hb (Nat.le_refl _)).mono (Nat.le_refl _) hb.size) ((GV.below hgv' hb (Nat.le_refl _)).mono (Nat.le_refl _) hb.size))
      rw [a3] at HC
      have HXY : Hid (X = Y) := by
        show X = Y
        have : txV x.name = txV y.name := by rw [a2]
        rw [hX, hY] at this
        injection this
      have HK := Lib.hid a1
      have HT := Lib.hid a4
      obtain ⟨k2, num2, S2, op2, A2, len2, cap2, p2⟩ := ev
      obtain ⟨k3, num3, S3, op3, A3, len3, cap3, p3⟩ := ev'
      simp only [EV.val] at HC
      simp only at x2 x3 x4 x5 x6 x7 y2 y3 y4 y5 y6 y7
      clear hev hev' hgv hgv' hv hv' kb x0 x1 x8 y0 y1 y8 hX hY a1 a2 a3 a4 hx hy hg hg'
      go_wp2_with fail
      go_still_tail 11, (by kernel_rfl)
      change wpList _ _ _ _ _ (World.drew wr)
      obtain ⟨W1, hW1⟩ : ∃ W1, W1 = wr.drew := ⟨_, rfl⟩
      have HB1 : Hid (Below w.heap.size w W1) := by rw [hW1]; exact HBW.out.trans (Below.refl _ wr).drew
      have kb : ∀ {p : Addr} {u : Value}, wr.cell? p = some u → W1.cell? p = some u := fun hc => by rw [hW1]; exact hc
      have X0' := Lib.hid (kb X0.out)
      have X1' := Lib.hid (kb X1.out)
      have X8' := Lib.hid (kb X8.out)
      have Y0' := Lib.hid (kb Y0.out)
      have Y1' := Lib.hid (kb Y1.out)
      have Y8' := Lib.hid (kb Y8.out)
      have HCC := Lib.hid (HC.out W1 HB1.out)
      rw [← hW1]
      clear kb hW1 HC HBW x2 x3 x4 x5 x6 x7 y2 y3 y4 y5 y6 y7 X0 X1 X8 Y0 Y1 Y8
      go_wp2_with fail
      refine HCC.out.mono ?_
      rintro e w2 ⟨rfl, hb⟩
      have HB2 := Lib.hid (HB1.out.trans (hb.mono HB1.out.size))
      have kb : ∀ {p : Addr} {u : Value}, W1.cell? p = some u → w2.cell? p = some u := fun hc => by rw [World.cell?_of_block (hb.block _ (World.block_lt_of_cell? W1 _ hc))]; exact hc
      have x0 := kb X0'.out
      have x1 := kb X1'.out
      have x8 := kb X8'.out
      have y0 := kb Y0'.out
      have y1 := kb Y1'.out
      have y8 := kb Y8'.out
      obtain rfl := HXY.out
      have q0 : (x.kind != y.kind) = false := by simp [bne, HK.out]
      clear kb hb HCC HB1 X0' X1' X8' Y0' Y1' Y8'
      cases pl
      · go_wp2_with fail
        go_quiet (fail)
        clear x0 x1 x8 y0 y1 y8 q0
        go_wp2_with fail
        go_roundw
        case rel => exact ⟨i + 1, by have := HIM.out; omega, by have h1 := HIM.out; have h2 := HMX.out; rw [Go.IntWalk.wrap64_in _ ⟨by omega, by omega⟩]; rfl, HB2.out.trans ((drewN_below w2 _).mono HB2.out.size)⟩
        case measure => have h1 := HIM.out; have h2 := HMX.out; rw [Go.IntWalk.wrap64_in _ ⟨by omega, by omega⟩]; simp [intOf]; omega
      · have q8 : (x.at_ != y.at_) = false := by simp [bne, HT.out rfl]
        go_wp2_with fail
        go_quiet (fail)
        clear x0 x1 x8 y0 y1 y8 q0 q8
        go_wp2_with fail
        go_roundw
        case rel => exact ⟨i + 1, by have := HIM.out; omega, by have h1 := HIM.out; have h2 := HMX.out; rw [Go.IntWalk.wrap64_in _ ⟨by omega, by omega⟩]; rfl, HB2.out.trans ((drewN_below w2 _).mono HB2.out.size)⟩
        case measure => have h1 := HIM.out; have h2 := HMX.out; rw [Go.IntWalk.wrap64_in _ ⟨by omega, by omega⟩]; simp [intOf]; omega
    · have him' : ¬ (i : Int) < n := by omega
      go_wp2_with fail
      go_ret
      exact ⟨rfl, HBW.out⟩

end Go.Proofs.YtcddbfdbhjkjgaaGreatDoor
