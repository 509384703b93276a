/- The fixed facts at the head of layer 2's statements: they hold, whatever the world. -/
import Derived.Test.YtnadmijfbfgcnaaC3
import Derived.Lib.SlBytesConst
namespace Go.Proofs.Ytnadmijfbfgcnaa
open Go.RowKit

def nines : List UInt8 := [49, 50, 51, 52, 53, 54, 55, 56, 57]
theorem nines_sum : crcOf nines = 3808858755 := by decide +kernel
theorem nines_cells : (cbs nines).toArray = #[Value.int .u8 49, .int .u8 50, .int .u8 51, .int .u8 52, .int .u8 53, .int .u8 54, .int .u8 55, .int .u8 56, .int .u8 57] := rfl
theorem none_sum : crcOf [] = 0 := by decide +kernel

set_option maxHeartbeats 1600000 in
set_option maxRecDepth 100000 in
theorem fixed2_any (w : World) :
    Calls Try.prog 26 #[] w fun e w' => e = .returned (.bool true) ∧ Below w.heap.size w w' := by
  have kc := fun (W : World) (C : Array Value) (n c : Nat) => Lib.run_convert_bytes_const (P := Try.prog) W 23 5 C n c sl_u8 Try.underlying5
  go_enter Try.func26, Try.ntmps26
  go_wp2_with fail
  refine (new_any _).mono ?_
  rintro e w1 ⟨rfl, ht1, hb1⟩
  go_wp2_with fail
  refine (made_any _ false _ ht1).mono ?_
  rintro e w' ⟨rfl, rfl⟩
  go_wp2_with fail
  have hs9 := sees_mark w' (cbs nines).toArray 5 (9, 10)
  have ht2 := ht1.alloc (.cells (cbs nines).toArray 5 (9, 10))
  have hb2 := hb1.alloc hb1.size (.cells (cbs nines).toArray 5 (9, 10))
  rw [nines_cells] at hs9 ht2 hb2
  have hl1 := ht1.lt
  refine (sum_any _ false _ 9 9 nines _ ht2 (apart_one (off := 0) hs9 (by omega) (by simp)) (by omega)).mono ?_
  rintro e w3 ⟨rfl, hask⟩
  rw [nines_sum]
  have ht3 := hask.tbl
  have hb3 := below_gb hb2 hask.2 (Nat.le_refl _) hb2.size
  clear hask hs9 ht2 hb2 ht1 hb1
  go_wp2_with fail
  refine (sum_any _ true _ 0 0 [] _ ht3 apart_none (by omega)).mono ?_
  rintro e w4 ⟨rfl, hask⟩
  have ht4 := hask.tbl
  have hb4 := below_gb hb3 hask.2 (Nat.le_refl _) hb3.size
  clear hask ht3 hb3
  have hz := none_sum
  have hby := fun W => bytes_any 3808858755 W (by omega)
  go_wp2_with (first
    | (go_at_call 30; refine (made_any _ true _ ht4).mono ?_; rintro e w' ⟨rfl, rfl⟩)
    | (go_at_call 31; refine (of_any none 0 0 [] 0 _ (Sees.none_ _ _ _) (by omega)).mono ?_; rintro e w' ⟨rfl, rfl⟩))
  refine (hby _).mono ?_
  rintro e w5 ⟨rfl, rfl⟩
  have hb5 := hb4.alloc hb4.size (.cells (cbs (le4 3808858755)).toArray 5)
  clear ht4 hb4
  generalize World.alloc _ (.cells (cbs (le4 3808858755)).toArray 5) = w5 at *
  go_wp2_with fail
  refine (hby _).mono ?_
  rintro e w7 ⟨rfl, rfl⟩
  have hs6 := sees_mark w5 (cbs nines).toArray 5 (9, 10)
  have hb6 := hb5.alloc hb5.size (.cells (cbs nines).toArray 5 (9, 10))
  rw [nines_cells] at hs6 hb6
  have hc6 : (w5.alloc (.cells #[Value.int .u8 49, .int .u8 50, .int .u8 51, .int .u8 52, .int .u8 53, .int .u8 54, .int .u8 55, .int .u8 56, .int .u8 57] 5 (9, 10))).heap.size = w5.heap.size + 1 := by simp
  generalize hw6 : w5.alloc (.cells #[Value.int .u8 49, .int .u8 50, .int .u8 51, .int .u8 52, .int .u8 53, .int .u8 54, .int .u8 55, .int .u8 56, .int .u8 57] 5 (9, 10)) = w6 at *
  have hs7 := hs6.past (.cells (cbs (le4 3808858755)).toArray 5)
  have hs7' := le4_sees w6 3808858755
  have hb7 := hb6.alloc hb6.size (.cells (cbs (le4 3808858755)).toArray 5)
  clear hs6 hb5 hb6 hw6 hby
  have HC6 := Lib.hid hc6
  clear hc6
  generalize w6.alloc (.cells (cbs (le4 3808858755)).toArray 5) = w7 at *
  have hck := check_any (some ⟨w5.heap.size, 0, none⟩) (some ⟨w6.heap.size, 0, none⟩) 9 9 4 4 nines (le4 3808858755) _ _ w7 hs7 (Nat.le_refl _) hs7' (Nat.le_refl _) (by omega)
  have hyes : (le4 (crcOf nines) == le4 3808858755) = true := by rw [nines_sum]; rfl
  rw [hyes] at hck
  have HCK := Lib.hid hck
  clear hck hyes hs7 hs7'
  go_wp2_with fail
  refine HCK.out.mono ?_
  rintro e w8 ⟨rfl, hb8⟩
  have hck2 := check_any none none 0 0 0 0 [] [] 0 0 w8 (Sees.none_ _ _ _) (Nat.zero_le _) (Sees.none_ _ _ _) (Nat.zero_le _) (by omega)
  have hno : (le4 (crcOf []) == []) = false := rfl
  rw [hno] at hck2
  have HCK2 := Lib.hid hck2
  clear hck2 hno
  have hb9 := bthen hb7 hb8
  clear hb7 hb8
  go_wp2_with fail
  refine HCK2.out.mono ?_
  rintro e w9 ⟨rfl, hb10⟩
  have hb11 := bthen hb9 hb10
  clear hb9 hb10
  go_wp2_with (first
    | (go_at_call 32; refine (sum_nil _ _ _ _).mono ?_; rintro e w' ⟨rfl, rfl⟩)
    | (go_at_call 30; refine (made_nil _).mono ?_; rintro e w' ⟨rfl, rfl⟩))
  go_ret
  exact ⟨rfl, hb11⟩
end Go.Proofs.Ytnadmijfbfgcnaa
