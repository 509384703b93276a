/- The walks of package word's and slices' small functions: numbers as bytes, rows joined, a row's copy. -/
import Derived.Test.YtgioaapflilhhabCore
import Derived.Test.YtgioaapflilhhabNum
import Derived.Test.YtgioaapflilhhabChecked
import Derived.WalkKit
import Derived.WalkSpells
import Derived.WalkLawsBesides
import Derived.Deep.OwnRows
import Derived.Lib.Hide
import Derived.Outline
namespace Go.Proofs.Ytgioaapflilhhab
open Go.RowKit

theorem u8_row : (Try.prog.info? 5).map (fun i => (i.zero, i.size, i.bytes)) = some (some (.int .u8 0), 1, 1) := by kernel_rfl
theorem int_i64 : Try.prog.underlying 3 = some (.int .i64) := Try.underlying3

/-- the operation of a round: shifted, and the next byte laid in -/
theorem shl_or_cell (a : Nat) (x : UInt8) (h : a * 256 + 255 < 18446744073709551616) :
    bits BinOp.or IntKind.u64 (IntKind.u64.wrap ((a : Int) * 256)) (IntKind.u64.wrap (x.toNat : Int)) = ((a * 256 + x.toNat : Nat) : Int) := by
  have hx : x.toNat < 256 := UInt8.toNat_lt x
  have hA : a * 256 < 18446744073709551616 := Nat.lt_of_le_of_lt (Nat.le_add_right _ _) h
  have hB : x.toNat < 18446744073709551616 := Nat.lt_trans hx (by decide)
  have h1 : IntKind.u64.wrap ((a : Int) * 256) = ((a * 256 : Nat) : Int) := by
    rw [IntWalk.u64_in _ (by omega), Int.natCast_mul]
    rfl
  have h2 : IntKind.u64.wrap (x.toNat : Int) = (x.toNat : Int) := IntWalk.u64_in _ (by omega)
  rw [h1, h2, u64_or_nat _ _ hA hB, shl_or_byte]

/-- the cells of a row that is filled from its end -/
def fillRow (N size k : Nat) : Array Value := (List.replicate (size - k) (Value.int .u8 0) ++ cbs (be N k)).toArray
theorem fillRow_zero (N size : Nat) : fillRow N size 0 = (List.replicate size (Value.int .u8 0)).toArray := by simp [fillRow, be]
theorem fillRow_get (N size k i : Nat) (h : i + k < size) : (fillRow N size k)[i]? = some (Value.int .u8 0) := by
  simp only [fillRow, List.getElem?_toArray]
  rw [List.getElem?_append_left (by simp; omega), List.getElem?_replicate, if_pos (by omega)]
theorem fillRow_step (N size k : Nat) (h : k < size) : (fillRow N size k).setIfInBounds (size - 1 - k) (cb (UInt8.ofNat (N / 256 ^ k))) = fillRow N size (k + 1) := by
  simp only [fillRow, List.setIfInBounds_toArray, be]
  congr 1
  rw [show size - k = (size - 1 - k) + 1 from by omega, show size - (k + 1) = size - 1 - k from by omega, List.replicate_succ']
  rw [List.set_append_left _ _ (by simp), List.set_append_right _ _ (by simp)]
  simp [cbs]
theorem cb_ofNat (m : Nat) : cb (UInt8.ofNat m) = .int .u8 ((m : Int) % 256) := by
  unfold cb
  rw [UInt8.toNat_ofNat']
  congr 1

/-! ### slices.Grow of nil, slices.Concat, slices.Clone -/
/-- a part that is joined: a slice of bytes -/
structure Part where
  A : Option Addr
  n : Nat
  c : Nat
  l : List UInt8
def Part.v (p : Part) : Value := .slice p.A p.n p.c
/-- all the parts' bytes, one behind the other -/
def cat (ps : List Part) : List UInt8 := ps.flatMap (·.l)
theorem cat_take_succ (ps : List Part) (k : Nat) (h : k < ps.length) : cat (ps.take (k + 1)) = cat (ps.take k) ++ ps[k].l := by
  unfold cat
  rw [List.take_succ_eq_append_getElem h, List.flatMap_append]
  simp only [List.flatMap_cons, List.flatMap_nil, List.append_nil]
theorem cat_take_le (ps : List Part) (k : Nat) : (cat (ps.take k)).length ≤ (cat ps).length := by
  have h : cat ps = cat (ps.take k) ++ cat (ps.drop k) := by unfold cat; rw [← List.flatMap_append, List.take_append_drop]
  rw [h, List.length_append]
  omega

end Go.Proofs.Ytgioaapflilhhab
