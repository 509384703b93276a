/- Sums of bytes as numbers: plain facts. A halving is linear and loses nothing. No program is named. -/
import Derived.Laws.BitsAllLaws
import Derived.Laws.BitsLemmas
namespace Go.Proofs.Ytgioaapflilhhab

/-- the polynomial -/
def poly : Nat := 2197175160
/-- one halving -/
def hv (n : Nat) : Nat := n / 2 ^^^ n % 2 * poly
/-- so many halvings -/
def hvk : Nat → Nat → Nat
  | 0, n => n
  | k + 1, n => hv (hvk k n)

theorem div_two_xor (a b : Nat) : (a ^^^ b) / 2 = a / 2 ^^^ b / 2 := by
  have := Nat.shiftRight_xor_distrib (a := a) (b := b) (i := 1)
  simpa [Nat.shiftRight_eq_div_pow] using this
theorem hv_xor (a b : Nat) : hv (a ^^^ b) = hv a ^^^ hv b := by
  unfold hv
  rw [div_two_xor]
  have h : (a ^^^ b) % 2 * poly = (a % 2 * poly) ^^^ (b % 2 * poly) := by
    have hx : (a ^^^ b) % 2 = (a % 2 ^^^ b % 2) := by
      have := Nat.xor_mod_two_pow (a := a) (b := b) (n := 1)
      simpa using this
    rw [hx]
    rcases Nat.mod_two_eq_zero_or_one a with h1 | h1 <;> rcases Nat.mod_two_eq_zero_or_one b with h2 | h2 <;> simp [h1, h2]
  rw [h]
  simp only [Nat.xor_assoc]
  congr 1
  rw [← Nat.xor_assoc, Nat.xor_comm (b / 2), Nat.xor_assoc]
theorem hvk_xor (k a b : Nat) : hvk k (a ^^^ b) = hvk k a ^^^ hvk k b := by
  induction k with
  | zero => rfl
  | succ k ih => simp only [hvk, ih, hv_xor]
theorem hv_lt {n : Nat} (h : n < 4294967296) : hv n < 4294967296 := by
  unfold hv
  have h1 : n / 2 < 2 ^ 32 := by omega
  have h2 : n % 2 * poly < 2 ^ 32 := by
    unfold poly
    have := Nat.mod_lt n (show 0 < 2 by omega)
    omega
  exact Nat.xor_lt_two_pow h1 h2
theorem hvk_lt {k n : Nat} (h : n < 4294967296) : hvk k n < 4294967296 := by
  induction k with
  | zero => exact h
  | succ k ih => exact hv_lt ih
theorem hvk_even (k : Nat) : ∀ m, hvk k (m * 2 ^ k) = m := by
  induction k with
  | zero => intro m; simp [hvk]
  | succ k ih =>
    intro m
    have e : m * 2 ^ (k + 1) = (m * 2) * 2 ^ k := by rw [Nat.pow_succ, Nat.mul_comm (2 ^ k) 2, Nat.mul_assoc]
    simp only [hvk]
    rw [e, ih]
    simp [hv]
theorem xor_left_cancel {a b c : Nat} (h : a ^^^ b = a ^^^ c) : b = c := by
  have := congrArg (a ^^^ ·) h
  simpa [← Nat.xor_assoc] using this
theorem xor_right_cancel {a b c : Nat} (h : b ^^^ a = c ^^^ a) : b = c := by
  rw [Nat.xor_comm b, Nat.xor_comm c] at h
  exact xor_left_cancel h
theorem hv_top {n : Nat} (h : n < 4294967296) : (hv n).testBit 31 = (n % 2 == 1) := by
  unfold hv
  have h1 : (n / 2).testBit 31 = false := Nat.testBit_lt_two_pow (show n / 2 < 2 ^ 31 by omega)
  rw [Nat.testBit_xor, h1]
  rcases Nat.mod_two_eq_zero_or_one n with h2 | h2
  · simp [h2]
  · rw [h2]
    decide
theorem hv_inj {a b : Nat} (ha : a < 4294967296) (hb : b < 4294967296) (h : hv a = hv b) : a = b := by
  have h1 := hv_top ha
  have h2 := hv_top hb
  rw [h, h2] at h1
  have h3 : a % 2 = b % 2 := by
    rcases Nat.mod_two_eq_zero_or_one a with x | x <;> rcases Nat.mod_two_eq_zero_or_one b with y | y <;> simp [x, y] at h1 ⊢
  unfold hv at h
  rw [h3] at h
  have h4 := xor_right_cancel h
  omega
theorem hvk_inj {k a b : Nat} (ha : a < 4294967296) (hb : b < 4294967296) (h : hvk k a = hvk k b) : a = b := by
  induction k with
  | zero => exact h
  | succ k ih => exact ih (hv_inj (hvk_lt ha) (hvk_lt hb) h)

/-- a byte is summed -/
def step (r : Nat) (x : UInt8) : Nat := hvk 8 (r ^^^ x.toNat)
def reg (r : Nat) (l : List UInt8) : Nat := l.foldl step r
/-- the sum of bytes -/
def crcOf (l : List UInt8) : Nat := 4294967295 - reg 4294967295 l

theorem byte_lt (x : UInt8) : x.toNat < 4294967296 := Nat.lt_trans (UInt8.toNat_lt x) (by decide)
theorem xor_byte_lt {r : Nat} (x : UInt8) (h : r < 4294967296) : r ^^^ x.toNat < 4294967296 := Nat.xor_lt_two_pow (n := 32) h (byte_lt x)
theorem step_lt {r : Nat} (x : UInt8) (h : r < 4294967296) : step r x < 4294967296 := hvk_lt (xor_byte_lt x h)
theorem reg_lt (l : List UInt8) : ∀ {r : Nat}, r < 4294967296 → reg r l < 4294967296 := by
  induction l with
  | nil => intro r h; exact h
  | cons x l ih => intro r h; exact ih (step_lt x h)
theorem reg_append (r : Nat) (l m : List UInt8) : reg r (l ++ m) = reg (reg r l) m := by simp [reg, List.foldl_append]
theorem reg_take_succ (r : Nat) (l : List UInt8) (k : Nat) (h : k < l.length) : reg r (l.take (k + 1)) = step (reg r (l.take k)) l[k] := by
  rw [List.take_succ_eq_append_getElem h, reg_append]
  rfl
theorem crc_lt (l : List UInt8) : crcOf l < 4294967296 := by unfold crcOf; omega
theorem reg_inj (l : List UInt8) : ∀ {r s : Nat}, r < 4294967296 → s < 4294967296 → reg r l = reg s l → r = s := by
  induction l with
  | nil => intro r s _ _ h; exact h
  | cons x l ih =>
    intro r s hr hs h
    have h1 := ih (step_lt x hr) (step_lt x hs) h
    exact xor_right_cancel (hvk_inj (xor_byte_lt x hr) (xor_byte_lt x hs) h1)
/-- bytes of which one is another one have another sum -/
theorem crc_turned (l m : List UInt8) (x y : UInt8) (h : x ≠ y) : crcOf (l ++ x :: m) ≠ crcOf (l ++ y :: m) := by
  intro e
  have h0 : (4294967295 : Nat) < 4294967296 := by omega
  have b1 := reg_lt (l ++ x :: m) h0
  have b2 := reg_lt (l ++ y :: m) h0
  have h1 : reg 4294967295 (l ++ x :: m) = reg 4294967295 (l ++ y :: m) := by unfold crcOf at e; omega
  rw [reg_append, reg_append] at h1
  have hr := reg_lt l h0
  have h2 := reg_inj m (step_lt x hr) (step_lt y hr) h1
  have h3 := xor_left_cancel (hvk_inj (xor_byte_lt x hr) (xor_byte_lt y hr) h2)
  exact h (UInt8.toNat_inj.1 h3)
/-- a byte is summed by a table -/
theorem step_table (r : Nat) (x : UInt8) : step r x = hvk 8 (r % 256 ^^^ x.toNat) ^^^ r / 256 := by
  unfold step
  have h1 : r = (r / 256 * 2 ^ 8) ^^^ (r % 256) := by
    have h2 : r % 256 < 2 ^ 8 := Nat.mod_lt _ (by decide)
    have h3 := Nat.two_pow_add_eq_or_of_lt h2 (r / 256)
    have h4 : (r / 256 * 2 ^ 8) ^^^ (r % 256) = (r / 256 * 2 ^ 8) ||| (r % 256) := by
      apply Nat.eq_of_testBit_eq
      intro i
      rw [Nat.testBit_xor, Nat.testBit_or]
      rcases Nat.lt_or_ge i 8 with hi | hi
      · have : (r / 256 * 2 ^ 8).testBit i = false := by rw [Nat.mul_comm, Nat.testBit_two_pow_mul]; simp; omega
        simp [this]
      · have : (r % 256).testBit i = false := Nat.testBit_lt_two_pow (Nat.lt_of_lt_of_le h2 (Nat.pow_le_pow_right (by omega) hi))
        simp [this]
    rw [h4, Nat.mul_comm, ← h3]
    have := Nat.div_add_mod r 256
    omega
  have h5 : r ^^^ x.toNat = (r / 256 * 2 ^ 8) ^^^ (r % 256 ^^^ x.toNat) := by
    rw [← Nat.xor_assoc, ← h1]
  rw [h5, hvk_xor, hvk_even, Nat.xor_comm]
/-- goes on with a sum -/
theorem crc_append (l m : List UInt8) : 4294967295 - reg (4294967295 - crcOf l) m = crcOf (l ++ m) := by
  have h := reg_lt l (show (4294967295 : Nat) < 4294967296 by omega)
  have e : 4294967295 - crcOf l = reg 4294967295 l := by unfold crcOf; omega
  rw [e]
  unfold crcOf
  rw [reg_append]

/-- a sum's bytes, the lowest first -/
def le4 (n : Nat) : List UInt8 := [UInt8.ofNat n, UInt8.ofNat (n / 256), UInt8.ofNat (n / 65536), UInt8.ofNat (n / 16777216)]
theorem le4_inj {a b : Nat} (ha : a < 4294967296) (hb : b < 4294967296) (h : le4 a = le4 b) : a = b := by
  simp only [le4, List.cons.injEq, ← UInt8.toNat_inj, UInt8.toNat_ofNat', and_true] at h
  omega
end Go.Proofs.Ytgioaapflilhhab
