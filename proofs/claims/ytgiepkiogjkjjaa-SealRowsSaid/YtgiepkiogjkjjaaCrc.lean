/-
  The check sum as plain numbers: a register of 32 bits, a step a bit; by bytes, also with the eight steps of a byte read out of a table. No program in sight.
-/
import Derived.RowKit3
namespace Go.Proofs.Ytgiepkiogjkjjaa

/-- A step of the register, a bit. -/
def st (x : Nat) : Nat := (2 * x) % 4294967296 ^^^ x / 2147483648 * 79764919

theorem st_lt {x : Nat} (h : x < 4294967296) : st x < 4294967296 := by
  unfold st
  refine Nat.xor_lt_two_pow (n := 32) (by omega) ?_
  have : x / 2147483648 ≤ 1 := by omega
  have : x / 2147483648 * 79764919 ≤ 1 * 79764919 := Nat.mul_le_mul_right _ this
  omega

theorem top_xor (a b : Nat) (ha : a ≤ 1) (hb : b ≤ 1) (p : Nat) : (a ^^^ b) * p = a * p ^^^ b * p := by
  have ha' : a = 0 ∨ a = 1 := by omega
  have hb' : b = 0 ∨ b = 1 := by omega
  rcases ha' with rfl | rfl <;> rcases hb' with rfl | rfl <;> simp

theorem dbl_xor (a b : Nat) : 2 * (a ^^^ b) = 2 * a ^^^ 2 * b := by
  have h := Nat.shiftLeft_xor_distrib (a := a) (b := b) (i := 1)
  simpa [Nat.shiftLeft_eq, Nat.mul_comm] using h

theorem div_xor (a b n : Nat) : (a ^^^ b) / 2 ^ n = a / 2 ^ n ^^^ b / 2 ^ n := by
  have h := Nat.shiftRight_xor_distrib (a := a) (b := b) (i := n)
  simpa [Nat.shiftRight_eq_div_pow] using h

theorem xor4 (a b c d : Nat) : (a ^^^ b) ^^^ (c ^^^ d) = (a ^^^ c) ^^^ (b ^^^ d) := by
  apply Nat.eq_of_testBit_eq
  intro i
  simp only [Nat.testBit_xor]
  cases a.testBit i <;> cases b.testBit i <;> cases c.testBit i <;> cases d.testBit i <;> rfl

theorem st_xor {x y : Nat} (hx : x < 4294967296) (hy : y < 4294967296) : st (x ^^^ y) = st x ^^^ st y := by
  unfold st
  have e1 : 2 * (x ^^^ y) % 4294967296 = 2 * x % 4294967296 ^^^ 2 * y % 4294967296 := by
    rw [dbl_xor]
    exact Nat.xor_mod_two_pow (n := 32)
  have e2 : (x ^^^ y) / 2147483648 = x / 2147483648 ^^^ y / 2147483648 := div_xor x y 31
  rw [e1, e2, top_xor _ _ (by omega) (by omega), xor4]

theorem st_low {x : Nat} (h : x < 2147483648) : st x = 2 * x := by
  unfold st
  rw [show x / 2147483648 = 0 by omega, Nat.mod_eq_of_lt (by omega)]
  simp

theorem xor_can {a b c : Nat} (h : a ^^^ c = b ^^^ c) : a = b := by
  have e : a ^^^ c ^^^ c = b ^^^ c ^^^ c := by rw [h]
  simpa [Nat.xor_assoc] using e

theorem st_inj {x y : Nat} (hx : x < 4294967296) (hy : y < 4294967296) (h : st x = st y) : x = y := by
  unfold st at h
  have ha : x / 2147483648 = 0 ∨ x / 2147483648 = 1 := by omega
  have hb : y / 2147483648 = 0 ∨ y / 2147483648 = 1 := by omega
  have hp : _ % 2 = _ % 2 := congrArg (· % 2) h
  have hm : ∀ a b : Nat, (a ^^^ b) % 2 = a % 2 ^^^ b % 2 := fun a b => Nat.xor_mod_two_pow (n := 1)
  rw [hm, hm, show 2 * x % 4294967296 % 2 = 0 by omega, show 2 * y % 4294967296 % 2 = 0 by omega] at hp
  have hab : x / 2147483648 = y / 2147483648 := by
    rcases ha with ha | ha <;> rcases hb with hb | hb <;> rw [ha, hb] at hp ⊢ <;> simp at hp
  rw [hab] at h
  have h2 := xor_can h
  omega

/-- Eight steps. -/
def sh8 (x : Nat) : Nat := st (st (st (st (st (st (st (st x)))))))

theorem sh8_lt {x : Nat} (h : x < 4294967296) : sh8 x < 4294967296 :=
  st_lt (st_lt (st_lt (st_lt (st_lt (st_lt (st_lt (st_lt h)))))))

theorem sh8_xor {x y : Nat} (hx : x < 4294967296) (hy : y < 4294967296) : sh8 (x ^^^ y) = sh8 x ^^^ sh8 y := by
  unfold sh8
  have hx1 := st_lt hx; have hy1 := st_lt hy
  have hx2 := st_lt hx1; have hy2 := st_lt hy1
  have hx3 := st_lt hx2; have hy3 := st_lt hy2
  have hx4 := st_lt hx3; have hy4 := st_lt hy3
  have hx5 := st_lt hx4; have hy5 := st_lt hy4
  have hx6 := st_lt hx5; have hy6 := st_lt hy5
  have hx7 := st_lt hx6; have hy7 := st_lt hy6
  rw [st_xor hx hy, st_xor hx1 hy1, st_xor hx2 hy2, st_xor hx3 hy3, st_xor hx4 hy4, st_xor hx5 hy5, st_xor hx6 hy6, st_xor hx7 hy7]

theorem sh8_low {x : Nat} (h : x < 16777216) : sh8 x = x * 256 := by
  unfold sh8
  rw [st_low (x := x) (by omega), st_low (x := 2 * x) (by omega), st_low (x := 2 * (2 * x)) (by omega), st_low (x := 2 * (2 * (2 * x))) (by omega), st_low (x := 2 * (2 * (2 * (2 * x)))) (by omega),
    st_low (x := 2 * (2 * (2 * (2 * (2 * x))))) (by omega), st_low (x := 2 * (2 * (2 * (2 * (2 * (2 * x)))))) (by omega), st_low (x := 2 * (2 * (2 * (2 * (2 * (2 * (2 * x))))))) (by omega)]
  omega

theorem sh8_inj {x y : Nat} (hx : x < 4294967296) (hy : y < 4294967296) (h : sh8 x = sh8 y) : x = y := by
  unfold sh8 at h
  have hx1 := st_lt hx; have hy1 := st_lt hy
  have hx2 := st_lt hx1; have hy2 := st_lt hy1
  have hx3 := st_lt hx2; have hy3 := st_lt hy2
  have hx4 := st_lt hx3; have hy4 := st_lt hy3
  have hx5 := st_lt hx4; have hy5 := st_lt hy4
  have hx6 := st_lt hx5; have hy6 := st_lt hy5
  have hx7 := st_lt hx6; have hy7 := st_lt hy6
  exact st_inj hx hy (st_inj hx1 hy1 (st_inj hx2 hy2 (st_inj hx3 hy3 (st_inj hx4 hy4 (st_inj hx5 hy5 (st_inj hx6 hy6 (st_inj hx7 hy7 h)))))))

/-- What a byte makes of the register. -/
def upd (r b : Nat) : Nat := sh8 (r ^^^ b * 16777216)

theorem xor_top_lt {r b : Nat} (h : r < 4294967296) (hb : b < 256) : r ^^^ b * 16777216 < 4294967296 :=
  Nat.xor_lt_two_pow (n := 32) h (by omega)

theorem upd_lt {r b : Nat} (h : r < 4294967296) (hb : b < 256) : upd r b < 4294967296 := sh8_lt (xor_top_lt h hb)

theorem add_xor_low (a l : Nat) (h : l < 16777216) : a * 16777216 ^^^ l = a * 16777216 + l := by
  have e := Nat.two_pow_add_eq_or_of_lt (i := 24) h a
  rw [Nat.mul_comm a, show 16777216 * a + l = 2 ^ 24 * a ||| l from e, show 16777216 * a = 2 ^ 24 * a from rfl]
  apply Nat.eq_of_testBit_eq
  intro i
  simp only [Nat.testBit_xor, Nat.testBit_or, Nat.testBit_two_pow_mul]
  by_cases hi : 24 ≤ i
  · have hl : l.testBit i = false := Nat.testBit_lt_two_pow (Nat.lt_of_lt_of_le (show l < 2 ^ 24 from h) (Nat.pow_le_pow_right (by decide) hi))
    simp [hl]
  · simp [hi]

/-- The same by a table of what eight shifts make of each byte on top. -/
theorem upd_table {r b : Nat} (h : r < 4294967296) (hb : b < 256) : r * 256 % 4294967296 ^^^ sh8 ((r / 16777216 ^^^ b) * 16777216) = upd r b := by
  have hlo : r % 16777216 < 16777216 := Nat.mod_lt _ (by decide)
  have e0 : r = r / 16777216 * 16777216 ^^^ r % 16777216 := by rw [add_xor_low _ _ hlo]; omega
  have hx : r / 16777216 ^^^ b < 256 := Nat.xor_lt_two_pow (n := 8) (by omega) hb
  have e1 : r ^^^ b * 16777216 = (r / 16777216 ^^^ b) * 16777216 ^^^ r % 16777216 := by
    conv => lhs; rw [e0]
    have e2 : (r / 16777216 ^^^ b) * 16777216 = r / 16777216 * 16777216 ^^^ b * 16777216 := by
      have h := Nat.shiftLeft_xor_distrib (a := r / 16777216) (b := b) (i := 24)
      simpa [Nat.shiftLeft_eq] using h
    rw [e2, Nat.xor_assoc, Nat.xor_assoc, Nat.xor_comm (r % 16777216)]
  unfold upd
  rw [e1, sh8_xor (by omega) (by omega), sh8_low hlo, Nat.xor_comm, show r * 256 % 4294967296 = r % 16777216 * 256 by omega]

theorem upd_reg {r s b : Nat} (hr : r < 4294967296) (hs : s < 4294967296) (hb : b < 256) (h : upd r b = upd s b) : r = s :=
  xor_can (sh8_inj (xor_top_lt hr hb) (xor_top_lt hs hb) h)

theorem upd_byte {r a b : Nat} (hr : r < 4294967296) (ha : a < 256) (hb : b < 256) (h : upd r a = upd r b) : a = b := by
  have h0 := sh8_inj (xor_top_lt hr ha) (xor_top_lt hr hb) h
  rw [Nat.xor_comm r, Nat.xor_comm r] at h0
  have h1 := xor_can h0
  omega

/-- The register behind bytes. -/
def crcR (r : Nat) (l : List Int) : Nat := l.foldl (fun r x => upd r x.toNat) r

/-- The check sum of bytes. -/
def crcN (l : List Int) : Nat := 4294967295 - crcR 4294967295 l

theorem crcR_nil (r : Nat) : crcR r [] = r := rfl
theorem crcR_cons (r : Nat) (x : Int) (l : List Int) : crcR r (x :: l) = crcR (upd r x.toNat) l := rfl
theorem crcR_append (r : Nat) (l k : List Int) : crcR r (l ++ k) = crcR (crcR r l) k := by simp [crcR]

theorem crcR_lt : ∀ (l : List Int) (r : Nat), (∀ x ∈ l, 0 ≤ x ∧ x < 256) → r < 4294967296 → crcR r l < 4294967296 := by
  intro l
  induction l with
  | nil => intro r _ h; exact h
  | cons x l ih =>
    intro r hx h
    have := hx x (by simp)
    exact ih _ (fun y hy => hx y (by simp [hy])) (upd_lt h (by omega))

theorem crcN_lt (l : List Int) : crcN l < 4294967296 := by unfold crcN; omega

theorem crcR_snoc (l : List Int) (k : Nat) (r : Nat) (h : k < l.length) : crcR r (l.take (k + 1)) = upd (crcR r (l.take k)) (l.getD k 0).toNat := by
  rw [List.take_succ_eq_append_getElem h, crcR_append]
  simp [crcR, List.getD, List.getElem?_eq_getElem h]

theorem crcR_inj : ∀ (l : List Int) (r s : Nat), (∀ x ∈ l, 0 ≤ x ∧ x < 256) → r < 4294967296 → s < 4294967296 → crcR r l = crcR s l → r = s := by
  intro l
  induction l with
  | nil => intro r s _ _ _ h; exact h
  | cons x l ih =>
    intro r s hx hr hs h
    have hb := hx x (by simp)
    exact upd_reg hr hs (by omega) (ih _ _ (fun y hy => hx y (by simp [hy])) (upd_lt hr (by omega)) (upd_lt hs (by omega)) h)

/-- A byte that is another one is told. -/
theorem crcN_turned {p q : List Int} {a b : Int} (hp : ∀ x ∈ p, 0 ≤ x ∧ x < 256) (hq : ∀ x ∈ q, 0 ≤ x ∧ x < 256) (ha : 0 ≤ a ∧ a < 256) (hb : 0 ≤ b ∧ b < 256) (h : a ≠ b) :
    crcN (p ++ a :: q) ≠ crcN (p ++ b :: q) := by
  intro e
  have hr := crcR_lt p 4294967295 hp (by decide)
  unfold crcN at e
  rw [crcR_append, crcR_append, crcR_cons, crcR_cons] at e
  have ha1 := upd_lt (r := crcR 4294967295 p) (b := a.toNat) hr (by omega)
  have hb1 := upd_lt (r := crcR 4294967295 p) (b := b.toNat) hr (by omega)
  have h1 := crcR_lt q _ hq ha1
  have h2 := crcR_lt q _ hq hb1
  have e2 := crcR_inj q _ _ hq ha1 hb1 (by omega)
  have e3 := upd_byte hr (by omega) (by omega) e2
  omega

/-- A number in four bytes, the most significant first. -/
def be4 (n : Nat) : List Int := [((n / 16777216 % 256 : Nat) : Int), ((n / 65536 % 256 : Nat) : Int), ((n / 256 % 256 : Nat) : Int), ((n % 256 : Nat) : Int)]

theorem be4_length (n : Nat) : (be4 n).length = 4 := rfl
theorem be4_range (n : Nat) : ∀ x ∈ be4 n, 0 ≤ x ∧ x < 256 := by
  intro x hx
  simp only [be4, List.mem_cons, List.not_mem_nil, or_false] at hx
  omega
theorem be4_inj {n m : Nat} (hn : n < 4294967296) (hm : m < 4294967296) (h : be4 n = be4 m) : n = m := by
  simp only [be4, List.cons.injEq, and_true] at h
  omega

end Go.Proofs.Ytgiepkiogjkjjaa
