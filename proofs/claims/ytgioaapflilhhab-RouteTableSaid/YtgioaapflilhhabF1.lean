/- The walks of package frame's small functions: Size, head, length; bytes.Clone. -/
import Derived.Test.YtgioaapflilhhabC1
import Derived.Test.YtgioaapflilhhabFree
import Derived.Test.YtgioaapflilhhabFrM
import Derived.Deep.RegionWith
import Derived.Deep.DeepCutAuto
import Derived.BigQuiet
namespace Go.Proofs.Ytgioaapflilhhab
open Go.RowKit

theorem add_zero_map (A : Option Addr) : A.map (·.add 0) = A := by
  cases A with
  | none => rfl
  | some a => simp [Addr.add]
theorem ret_i64 {a b : Int} (h : a = b) : Ending.returned (.int .i64 a) = .returned (.int .i64 b) := by rw [h]

theorem hd_cells (n : Nat) : (cbs (hd n)).toArray = #[Value.int .u8 ((n : Int) / 256 % 256), Value.int .u8 ((n : Int) % 256), Value.int .u8 (255 - (n : Int) / 256 % 256), Value.int .u8 (255 - (n : Int) % 256)] := by
  have h1 : ∀ m : Nat, cb (255 - UInt8.ofNat m) = .int .u8 (255 - (m : Int) % 256) := fun m => by
    unfold cb
    have h := UInt8.toNat_sub 255 (UInt8.ofNat m)
    rw [h, UInt8.toNat_ofNat']
    have : (255 : UInt8).toNat = 255 := rfl
    rw [this]
    congr 1
    omega
  simp only [hd, cbs, List.map_cons, List.map_nil, cb_ofNat, h1]
  simp

theorem i64_or_nat (a b : Nat) (ha : a < 9223372036854775808) (hb : b < 9223372036854775808) : bits .or .i64 (a : Int) (b : Int) = ((a ||| b : Nat) : Int) := by
  have hx : a ||| b < 2 ^ 63 := Nat.or_lt_two_pow (by omega) (by omega)
  show IntKind.i64.wrap ((BitVec.ofInt 64 (a : Int) ||| BitVec.ofInt 64 (b : Int)).toNat : Int) = _
  rw [BitVec.toNat_or, ofInt_u64 a (by omega), ofInt_u64 b (by omega), IntKind.wrap_i64]
  omega
/-- the operation of a head: shifted, and the next byte laid in -/
theorem shl_or_int (a x : UInt8) : bits BinOp.or IntKind.i64 (wrap64 (wrap64 (a.toNat : Int) * 256)) (wrap64 (x.toNat : Int)) = ((a.toNat * 256 + x.toNat : Nat) : Int) := by
  have ha : a.toNat < 256 := UInt8.toNat_lt a
  have hx : x.toNat < 256 := UInt8.toNat_lt x
  have h1 : wrap64 (wrap64 (a.toNat : Int) * 256) = ((a.toNat * 256 : Nat) : Int) := by unfold wrap64; omega
  have h2 : wrap64 (x.toNat : Int) = ((x.toNat : Nat) : Int) := by unfold wrap64; omega
  rw [h1, h2, i64_or_nat _ _ (by omega) (by omega), shl_or_byte]
theorem head_same (b0 b1 b2 b3 : UInt8) (N : Nat) (h : b0.toNat * 256 + b1.toNat = N) : ([b0, b1, b2, b3] == hd N) = decide (b0 + b2 = 255 ∧ b1 + b3 = 255) := by
  have e0 : UInt8.ofNat (N / 256) = b0 := by
    apply UInt8.toNat_inj.1
    have := UInt8.toNat_lt b0
    have := UInt8.toNat_lt b1
    simp only [UInt8.toNat_ofNat']
    omega
  have e1 : UInt8.ofNat N = b1 := by
    apply UInt8.toNat_inj.1
    have := UInt8.toNat_lt b1
    simp only [UInt8.toNat_ofNat']
    omega
  rw [Bool.eq_iff_iff, beq_iff_eq, decide_eq_true_iff, byte_sum, byte_sum]
  unfold hd
  rw [e0, e1]
  simp

end Go.Proofs.Ytgioaapflilhhab
