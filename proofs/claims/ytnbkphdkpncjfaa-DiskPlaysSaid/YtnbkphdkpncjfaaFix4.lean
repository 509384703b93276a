/- The fixed facts at the head of layer 4's statements: they hold, whatever the world. -/
import Derived.Test.YtnbkphdkpncjfaaD2
import Derived.Test.YtnbkphdkpncjfaaC3
import Derived.Lib.SlBytesConst
namespace Go.Proofs.Ytnbkphdkpncjfaa
open Go.RowKit

set_option maxHeartbeats 1600000 in
set_option maxRecDepth 100000 in
theorem fixed4_any (w : World) :
    Calls Try.prog 51 #[] w fun e w' => e = .returned (.bool true) ∧ Below w.heap.size w w' := by
  have kc := fun (W : World) (C : Array Value) (n c : Nat) => Lib.run_convert_bytes_const (P := Try.prog) W 23 5 C n c sl_u8 Try.underlying5
  go_enter Try.func51, Try.ntmps51
  go_wp2_with fail
  refine (dNew_any w).mono ?_
  rintro e w1 ⟨rfl, hd1, hb1⟩
  generalize hg : w.heap.size = g at *
  go_wp2_with fail
  have hs2 : Sees (w1.alloc (.cells #[Value.int .u8 97, Value.int .u8 98] 5 (2, 3))) (w1.alloc (.cells #[Value.int .u8 97, Value.int .u8 98] 5 (2, 3))).heap.size (some ⟨w1.heap.size, 0, none⟩) 2 (cbs [97, 98]) := sees_mark w1 #[Value.int .u8 97, Value.int .u8 98] 5 (2, 3)
  have hd2 := hd1.alloc (.cells #[Value.int .u8 97, Value.int .u8 98] 5 (2, 3))
  have hb2 := hb1.alloc (by have := hb1.size; omega) (.cells #[Value.int .u8 97, Value.int .u8 98] 5 (2, 3))
  refine (dWrite_any g g 0 [] _ 2 2 [97, 98] _ hd2 hs2 (by omega) (by have := hb2.size; omega) (by simp)).mono ?_
  rintro e w3 ⟨rfl, hd3, hb3⟩
  have e3 : writeF [] [97, 98] = ([97, 98], 0) := by decide
  rw [e3] at hd3 ⊢
  have hb3' := hb2.trans hb3
  simp only at hd3
  clear hd1 hb1 hd2 hb2 hs2 hb3 e3
  go_wp2_with fail
  refine (dSync_any g g 0 [97, 98] w3 hd3).mono ?_
  rintro e w4 ⟨rfl, hd4, hb4⟩
  have hb4' := hb3'.trans hb4
  have e4 : ([97, 98] : List UInt8).length = 2 := rfl
  rw [e4] at hd4
  clear hd3 hb3' hb4 e4
  go_wp2_with fail
  have hs5 : Sees (w4.alloc (.cells #[Value.int .u8 99, Value.int .u8 100] 5 (2, 3))) (w4.alloc (.cells #[Value.int .u8 99, Value.int .u8 100] 5 (2, 3))).heap.size (some ⟨w4.heap.size, 0, none⟩) 2 (cbs [99, 100]) := sees_mark w4 #[Value.int .u8 99, Value.int .u8 100] 5 (2, 3)
  have hd5 := hd4.alloc (.cells #[Value.int .u8 99, Value.int .u8 100] 5 (2, 3))
  have hb5 := hb4'.alloc (by have := hb4'.size; omega) (.cells #[Value.int .u8 99, Value.int .u8 100] 5 (2, 3))
  refine (dWrite_any g g 2 [97, 98] _ 2 2 [99, 100] _ hd5 hs5 (by omega) (by have := hb5.size; omega) (by simp)).mono ?_
  rintro e w6 ⟨rfl, hd6, hb6⟩
  have e6 : writeF [97, 98] [99, 100] = ([97, 98, 99, 100], 0) := by decide
  rw [e6] at hd6 ⊢
  have hb6' := hb5.trans hb6
  simp only at hd6
  clear hd4 hb4' hd5 hb5 hs5 hb6 e6 kc
  go_wp2_with fail
  refine (dCrash_any g g 2 [97, 98, 99, 100] 1 0 1 w6 hd6 (by simp)).mono ?_
  rintro e w7 ⟨rfl, hd7, hb7⟩
  have e7 : crashF [97, 98, 99, 100] 2 1 0 1 = [97, 98, 98] := by decide
  rw [e7] at hd7
  have hb7' := hb6'.trans hb7
  clear hd6 hb6' hb7 e7
  go_wp2_with fail
  refine (dSpoil_any g g 2 [97, 98, 98] 2 1 w7 hd7).mono ?_
  rintro e w8 ⟨rfl, hd8, hb8⟩
  have e8 : spoilF [97, 98, 98] 2 2 1 = ([97, 98, 98], 5) := by decide
  rw [e8] at hd8 ⊢
  have hb8' := hb7'.trans hb8
  simp only at hd8
  clear hd7 hb7' hb8 e8
  go_wp2_with fail
  refine (dCut_any g g 2 [97, 98, 98] 9 w8 hd8).mono ?_
  rintro e w9 ⟨rfl, hd9, hb9⟩
  have e9 : cutF [97, 98, 98] 2 9 = ([97, 98, 98], 2, 5) := by decide
  rw [e9] at hd9 ⊢
  have hb9' := hb8'.trans hb9
  simp only at hd9
  clear hd8 hb8' hb9 e9
  have HB := Lib.hid (dBytes_any g g 2 [97, 98, 98] w9 hd9 (by simp))
  have HD := Lib.hid hd9
  clear hd9
  go_wp2_with (first
    | (go_at_call 58; first | (with_reducible refine HB.out.mono ?_; rintro e w10 ⟨A10, c10, rfl, hf10, hb10⟩; have hcv := conv_sees' w10 _ A10 3 c10 [97, 98, 98] hf10.sees; have hd10 := HD.out.on hb10) | (with_reducible refine (dBytes_nil _).mono ?_; rintro e w' ⟨rfl, rfl⟩))
    | (go_at_call 59; first | (with_reducible refine (dSynced_any g g 2 [97, 98, 98] _ hd10).mono ?_; rintro e w' ⟨rfl, rfl⟩) | (with_reducible refine (dSynced_nil _).mono ?_; rintro e w' ⟨rfl, rfl⟩))
    | (go_at_call 60; first | (with_reducible refine (dLen_any g g 2 [97, 98, 98] _ hd10).mono ?_; rintro e w' ⟨rfl, rfl⟩) | (with_reducible refine (dLen_nil _).mono ?_; rintro e w' ⟨rfl, rfl⟩))
    | (go_at_call 53; refine (dWrite_nil _ _).mono ?_; rintro e w' ⟨rfl, rfl⟩)
    | (go_at_call 54; refine (dSync_nil _).mono ?_; rintro e w' ⟨rfl, rfl⟩))
  go_ret
  subst hg
  exact ⟨rfl, bthen hb9' hb10⟩
end Go.Proofs.Ytnbkphdkpncjfaa
