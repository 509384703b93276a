/- Numbers as bytes, highest first, and back: plain facts. No program is named. -/
import Derived.Laws.BitsAllLaws
import Derived.Laws.BitsLemmas
import Derived.IntWalk
namespace Go.Proofs.Ytgioaapflilhhab

/-- the k lowest bytes of N, the highest first -/
def be (N : Nat) : Nat → List UInt8
  | 0 => []
  | k + 1 => UInt8.ofNat (N / 256 ^ k) :: be N k
@[simp] theorem be_length (N k : Nat) : (be N k).length = k := by
  induction k with
  | zero => rfl
  | succ k ih => simp [be, ih]
/-- the number of bytes, the highest first -/
def num : List UInt8 → Nat
  | [] => 0
  | x :: l => x.toNat * 256 ^ l.length + num l
theorem num_lt (l : List UInt8) : num l < 256 ^ l.length := by
  induction l with
  | nil => simp [num]
  | cons x l ih =>
    have hx : x.toNat < 256 := UInt8.toNat_lt x
    have h1 : (x.toNat + 1) * 256 ^ l.length ≤ 256 * 256 ^ l.length := Nat.mul_le_mul_right _ (by omega)
    rw [Nat.add_mul] at h1
    simp only [num, List.length_cons, Nat.pow_succ]
    omega
theorem num_snoc (l : List UInt8) (x : UInt8) : num (l ++ [x]) = num l * 256 + x.toNat := by
  induction l with
  | nil => simp [num]
  | cons y l ih =>
    simp only [List.cons_append, num, ih, List.length_append, List.length_cons, List.length_nil, Nat.zero_add, Nat.pow_succ, Nat.add_mul, Nat.mul_assoc]
    omega
theorem num_take_succ (l : List UInt8) (k : Nat) (h : k < l.length) : num (l.take (k + 1)) = num (l.take k) * 256 + l[k].toNat := by
  rw [List.take_succ_eq_append_getElem h, num_snoc]
theorem num_be (N k : Nat) : num (be N k) = N % 256 ^ k := by
  induction k with
  | zero => simp [be, num, Nat.mod_one]
  | succ k ih =>
    have h : N % (256 ^ k * 256) = N % 256 ^ k + 256 ^ k * (N / 256 ^ k % 256) := Nat.mod_mul
    rw [Nat.pow_succ, h]
    simp only [be, num, be_length, ih, UInt8.toNat_ofNat', show (2 : Nat) ^ 8 = 256 from rfl]
    rw [Nat.mul_comm (N / 256 ^ k % 256)]
    omega
theorem num_take_bd (l : List UInt8) (k : Nat) (h : k < 8) : num (l.take k) * 256 + 255 < 18446744073709551616 := by
  have h1 := num_lt (l.take k)
  have h2 : (l.take k).length ≤ k := List.length_take_le _ _
  have h3 : 256 ^ (l.take k).length ≤ 256 ^ 7 := Nat.pow_le_pow_right (by omega) (by omega)
  have h4 : (256 : Nat) ^ 7 = 72057594037927936 := by decide
  omega
/-- two numbers below 2^64 whose bytes are the same are the same -/
theorem be_inj {N M : Nat} (hN : N < 18446744073709551616) (hM : M < 18446744073709551616) (h : be N 8 = be M 8) : N = M := by
  have h1 := num_be N 8
  have h2 := num_be M 8
  rw [h, h2] at h1
  have h4 : (256 : Nat) ^ 8 = 18446744073709551616 := by decide
  rw [h4, Nat.mod_eq_of_lt hN, Nat.mod_eq_of_lt hM] at h1
  exact h1.symm
/-- shifted by eight bits, and a byte laid into the place -/
theorem shl_or_byte (a : Nat) (x : UInt8) : (a * 256 ||| x.toNat) = a * 256 + x.toNat := by
  have hx : x.toNat < 2 ^ 8 := UInt8.toNat_lt x
  have := Nat.two_pow_add_eq_or_of_lt hx a
  rw [show 2 ^ 8 * a = a * 256 from by omega] at this
  exact this.symm
end Go.Proofs.Ytgioaapflilhhab
