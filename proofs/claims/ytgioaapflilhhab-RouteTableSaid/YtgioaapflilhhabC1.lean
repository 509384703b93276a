/- The walks of package crc's functions without a table, and of the document's own (kissinggateref02). -/
import Derived.Test.YtgioaapflilhhabW2
import Derived.Test.YtgioaapflilhhabCrcM
import Derived.Handy
namespace Go.Proofs.Ytgioaapflilhhab
open Go.RowKit

theorem round_cell (n : Nat) (h : n < 4294967296) :
    bits BinOp.xor IntKind.u32 ((n : Int) / 2) (bits BinOp.and IntKind.u32 (n : Int) 1 * 2197175160 % 4294967296) = ((hv n : Nat) : Int) := by
  have h1 : bits BinOp.and IntKind.u32 (n : Int) 1 = ((n % 2 : Nat) : Int) := by
    have := u32_and_nat n 1 h (by omega)
    rw [nat_mask1] at this
    exact this
  have h3 : n % 2 * 2197175160 < 4294967296 := by
    have := Nat.mod_lt n (show 0 < 2 by omega)
    omega
  have h2 : (((n % 2 : Nat) : Int) * 2197175160 % 4294967296) = ((n % 2 * 2197175160 : Nat) : Int) := by omega
  have h4 : n / 2 < 4294967296 := by omega
  rw [h1, h2, show ((n : Int) / 2) = ((n / 2 : Nat) : Int) from by omega, u32_xor_nat _ _ h4 h3]
  rfl

theorem ret_u32 {a b : Int} (h : a = b) : Ending.returned (.int .u32 a) = .returned (.int .u32 b) := by rw [h]
theorem ones_xor (r : Nat) (h : r < 4294967296) : 4294967295 ^^^ r = 4294967295 - r := by
  apply Nat.eq_of_testBit_eq
  intro i
  have h1 := Nat.testBit_two_pow_sub_succ (show r < 2 ^ 32 from h) i
  have e : 2 ^ 32 - (r + 1) = 4294967295 - r := by omega
  rw [e] at h1
  rw [h1, Nat.testBit_xor]
  have h2 : Nat.testBit 4294967295 i = decide (i < 32) := Nat.testBit_two_pow_sub_one (n := 32) (i := i)
  rw [h2]
  rcases Nat.lt_or_ge i 32 with hi | hi
  · simp [hi]
  · have : r.testBit i = false := Nat.testBit_lt_two_pow (Nat.lt_of_lt_of_le h (Nat.pow_le_pow_right (n := 2) (by omega) hi))
    simp [this]
theorem flip_cell (r : Nat) (h : r < 4294967296) : bits BinOp.xor IntKind.u32 IntKind.u32.max (r : Int) = ((4294967295 - r : Nat) : Int) := by
  have := u32_xor_nat 4294967295 r (by omega) h
  rw [ones_xor r h] at this
  exact this
theorem xor_cell (r : Nat) (x : UInt8) (h : r < 4294967296) : bits BinOp.xor IntKind.u32 (r : Int) ((x.toNat : Int) % 4294967296) = ((r ^^^ x.toNat : Nat) : Int) := by
  have hx := byte_lt x
  rw [show ((x.toNat : Int) % 4294967296) = ((x.toNat : Nat) : Int) from by omega]
  exact u32_xor_nat _ _ h hx

theorem odd_cell (m : Nat) (h : m < 4294967296) (ho : m % 2 = 1) : bits BinOp.xor IntKind.u32 ((m : Int) / 2) 2197175160 = ((hv m : Nat) : Int) := by
  have h4 : m / 2 < 4294967296 := by omega
  rw [show ((m : Int) / 2) = ((m / 2 : Nat) : Int) from by omega]
  have := u32_xor_nat (m / 2) 2197175160 h4 (by omega)
  unfold hv poly
  rw [ho]
  exact this
theorem even_cell (m : Nat) (ho : ¬ m % 2 = 1) : ((m : Int) / 2) = ((hv m : Nat) : Int) := by
  have : m % 2 = 0 := by omega
  unfold hv
  rw [this]
  simp

/-! ### a sum's bytes -/
theorem le4_cells (n : Nat) (h : n < 4294967296) : (cbs (le4 n)).toArray = #[Value.int .u8 ((n : Int) % 256), Value.int .u8 ((n : Int) / 256 % 256), Value.int .u8 ((n : Int) / 65536 % 256), Value.int .u8 ((n : Int) / 16777216)] := by
  simp only [le4, cbs, List.map_cons, List.map_nil, cb_ofNat]
  have h1 : ((n / 16777216 : Nat) : Int) % 256 = (n : Int) / 16777216 := by omega
  rw [h1]
  simp

theorem le4_cells' (n : Nat) : (cbs (le4 n)).toArray = #[Value.int .u8 ((n : Int) % 256), Value.int .u8 ((n : Int) / 256 % 256), Value.int .u8 ((n : Int) / 65536 % 256), Value.int .u8 ((n : Int) / 16777216 % 256)] := by
  simp only [le4, cbs, List.map_cons, List.map_nil, cb_ofNat]
  simp

/-! ### bytes.Equal, crc.Check -/
/-- a sum's bytes, seen in memory -/
theorem le4_sees (w : World) (n : Nat) : Sees (w.alloc (.cells (cbs (le4 n)).toArray 5)) (w.alloc (.cells (cbs (le4 n)).toArray 5)).heap.size (some ⟨w.heap.size, 0, none⟩) 4 (cbs (le4 n)) :=
  sees_new w (cbs (le4 n)).toArray 5

end Go.Proofs.Ytgioaapflilhhab
