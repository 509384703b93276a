/- The walks of package crc's functions without a table, and of the document's own (kissinggateref02). -/
import Derived.Test.YtmhgbpgbnfdokaaW2
import Derived.Test.YtmhgbpgbnfdokaaCrcM
import Derived.Handy
namespace Go.Proofs.Ytmhgbpgbnfdokaa
open Go.RowKit

theorem round_cell (n : Nat) (h : n < 4294967296) :
    bits BinOp.xor IntKind.u32 ((n : Int) / 2) (bits BinOp.and IntKind.u32 (n : Int) 1 * 2197175160 % 4294967296) = ((hv n : Nat) : Int) := by
  have h1 : bits BinOp.and IntKind.u32 (n : Int) 1 = ((n % 2 : Nat) : Int) := by
    have := u32_and_nat n 1 h (by omega)
    rw [nat_mask1] at this
    exact this
  have h3 : n % 2 * 2197175160 < 4294967296 := by
    have := Nat.mod_lt n (show 0 < 2 by omega)
    omega
  have h2 : (((n % 2 : Nat) : Int) * 2197175160 % 4294967296) = ((n % 2 * 2197175160 : Nat) : Int) := by omega
  have h4 : n / 2 < 4294967296 := by omega
  rw [h1, h2, show ((n : Int) / 2) = ((n / 2 : Nat) : Int) from by omega, u32_xor_nat _ _ h4 h3]
  rfl

theorem ret_u32 {a b : Int} (h : a = b) : Ending.returned (.int .u32 a) = .returned (.int .u32 b) := by rw [h]
theorem ones_xor (r : Nat) (h : r < 4294967296) : 4294967295 ^^^ r = 4294967295 - r := by
  apply Nat.eq_of_testBit_eq
  intro i
  have h1 := Nat.testBit_two_pow_sub_succ (show r < 2 ^ 32 from h) i
  have e : 2 ^ 32 - (r + 1) = 4294967295 - r := by omega
  rw [e] at h1
  rw [h1, Nat.testBit_xor]
  have h2 : Nat.testBit 4294967295 i = decide (i < 32) := Nat.testBit_two_pow_sub_one (n := 32) (i := i)
  rw [h2]
  rcases Nat.lt_or_ge i 32 with hi | hi
  · simp [hi]
  · have : r.testBit i = false := Nat.testBit_lt_two_pow (Nat.lt_of_lt_of_le h (Nat.pow_le_pow_right (n := 2) (by omega) hi))
    simp [this]
theorem flip_cell (r : Nat) (h : r < 4294967296) : bits BinOp.xor IntKind.u32 IntKind.u32.max (r : Int) = ((4294967295 - r : Nat) : Int) := by
  have := u32_xor_nat 4294967295 r (by omega) h
  rw [ones_xor r h] at this
  exact this
theorem xor_cell (r : Nat) (x : UInt8) (h : r < 4294967296) : bits BinOp.xor IntKind.u32 (r : Int) ((x.toNat : Int) % 4294967296) = ((r ^^^ x.toNat : Nat) : Int) := by
  have hx := byte_lt x
  rw [show ((x.toNat : Int) % 4294967296) = ((x.toNat : Nat) : Int) from by omega]
  exact u32_xor_nat _ _ h hx

set_option maxRecDepth 100000 in
set_option maxHeartbeats 400000 in
/-- crc.halve8 -/
theorem halve8_any (n : Nat) (w : World) (hn : n < 4294967296) :
    Calls Try.prog 127 #[.int .u32 (n : Int)] w fun e w' => e = .returned (.int .u32 (hvk 8 n : Int)) ∧ w' = w := by
  have HN := Lib.hid hn
  clear hn
  go_enter Try.func127, Try.ntmps127
  go_wp2
  go_loop [0, 4] (fun u i => ∃ k : Nat, k ≤ 8 ∧ i = .int .i64 k ∧ u = .int .u32 (hvk k n : Int)) (fun _ i => 8 - (intOf i).toNat)
  case atStart => exact ⟨0, Nat.zero_le _, rfl, rfl⟩
  case round =>
    obtain ⟨k, hk, rfl, rfl⟩ := hrel
    have hlt2 := hvk_lt (k := k) HN.out
    by_cases hlt : k < 8
    · go_wp2_with fail
      go_round
      case rel => exact ⟨k + 1, by omega, by go_num, by rw [round_cell _ hlt2]; rfl⟩
      case measure => simp [intOf]; omega
    · have hk8 : k = 8 := by omega
      subst hk8
      go_wp2_with fail
      go_ret
      exact ⟨rfl, rfl⟩

set_option maxRecDepth 100000 in
set_option maxHeartbeats 400000 in
/-- crc.Of -/
theorem of_any (A : Option Addr) (n c : Nat) (l : List UInt8) (B : Nat) (w : World) (hs : Sees w B A n (cbs l)) (hn : n ≤ 9223372036854775807) :
    Calls Try.prog 117 #[.slice A n c] w fun e w' => e = .returned (.int .u32 (crcOf l : Int)) ∧ w' = w := by
  have hl : l.length = n := by have := hs.1; simpa using this
  have HL := Lib.hid hl
  clear hl
  go_enter Try.func117, Try.ntmps117
  go_wp2_with fail
  go_loop [3, 8] (fun u i => ∃ k : Nat, k ≤ n ∧ i = .int .i64 k ∧ u = .int .u32 (reg 4294967295 (l.take k) : Int)) (fun _ i => n - (intOf i).toNat)
  case atStart => exact ⟨0, Nat.zero_le _, rfl, rfl⟩
  case round =>
    obtain ⟨k, hk, rfl, rfl⟩ := hrel
    by_cases hlt : k < n
    · have hkl : k < l.length := by rw [HL.out]; exact hlt
      obtain ⟨b, off, u, rfl, _, hu, hc⟩ := hs.at_ hlt
      rw [cbs_get, List.getElem?_eq_getElem hkl] at hu
      have hu' : cb l[k] = u := by simpa using hu
      subst hu'
      unfold cb at hc
      have hr := reg_lt (l.take k) (show (4294967295 : Nat) < 4294967296 by omega)
      have HR := Lib.hid hr
      have HN := Lib.hid (reg_take_succ 4294967295 l k hkl)
      clear hr
      go_wp2_with fail
      rw [xor_cell _ _ HR.out]
      refine (halve8_any _ _ (xor_byte_lt _ HR.out)).mono ?_
      rintro e w1 ⟨rfl, rfl⟩
      go_wp2_with fail
      go_round
      case rel => exact ⟨k + 1, by omega, by go_num, by rw [HN.out]; rfl⟩
      case measure => simp [intOf]; omega
    · have hk' : l.take k = l := List.take_of_length_le (by rw [HL.out]; omega)
      rw [hk']
      clear hk'
      have hsg : IntKind.u32.signed = false := rfl
      go_wp2_with fail
      go_ret
      exact ⟨ret_u32 (flip_cell _ (reg_lt l (by omega))), rfl⟩

theorem odd_cell (m : Nat) (h : m < 4294967296) (ho : m % 2 = 1) : bits BinOp.xor IntKind.u32 ((m : Int) / 2) 2197175160 = ((hv m : Nat) : Int) := by
  have h4 : m / 2 < 4294967296 := by omega
  rw [show ((m : Int) / 2) = ((m / 2 : Nat) : Int) from by omega]
  have := u32_xor_nat (m / 2) 2197175160 h4 (by omega)
  unfold hv poly
  rw [ho]
  exact this
theorem even_cell (m : Nat) (ho : ¬ m % 2 = 1) : ((m : Int) / 2) = ((hv m : Nat) : Int) := by
  have : m % 2 = 0 := by omega
  unfold hv
  rw [this]
  simp

/-! ### a sum's bytes -/
theorem le4_cells (n : Nat) (h : n < 4294967296) : (cbs (le4 n)).toArray = #[Value.int .u8 ((n : Int) % 256), Value.int .u8 ((n : Int) / 256 % 256), Value.int .u8 ((n : Int) / 65536 % 256), Value.int .u8 ((n : Int) / 16777216)] := by
  simp only [le4, cbs, List.map_cons, List.map_nil, cb_ofNat]
  have h1 : ((n / 16777216 : Nat) : Int) % 256 = (n : Int) / 16777216 := by omega
  rw [h1]
  simp

theorem le4_cells' (n : Nat) : (cbs (le4 n)).toArray = #[Value.int .u8 ((n : Int) % 256), Value.int .u8 ((n : Int) / 256 % 256), Value.int .u8 ((n : Int) / 65536 % 256), Value.int .u8 ((n : Int) / 16777216 % 256)] := by
  simp only [le4, cbs, List.map_cons, List.map_nil, cb_ofNat]
  simp

set_option maxRecDepth 100000 in
set_option maxHeartbeats 800000 in
/-- crc.Bytes -/
theorem bytes_any (n : Nat) (w : World) (hn : n < 4294967296) :
    Calls Try.prog 116 #[.int .u32 (n : Int)] w fun e w' => e = .returned (.slice (some ⟨w.heap.size, 0, none⟩) 4 4) ∧ w' = w.alloc (.cells (cbs (le4 n)).toArray 5) := by
  have hmk : ∀ W, (Instr.makeSlice 27 (.int .i64 4) (.int .i64 4)).run Try.prog W = .ok (.slice (some ⟨W.heap.size, 0, none⟩) 4 4) (W.alloc (.cells #[.int .u8 0, .int .u8 0, .int .u8 0, .int .u8 0] 5)) := fun W => by
    have h := run_make_row' (P := Try.prog) 27 5 (.int .u8 0) 1 sl_u8 u8_row rfl .i64 .i64 4 (by omega) (by omega) W
    have hm : madeCells #[Value.int .u8 0] 4 = #[.int .u8 0, .int .u8 0, .int .u8 0, .int .u8 0] := by apply Array.toList_inj.1; rw [toList_madeCells_one]; rfl
    rw [hm] at h
    exact h
  rw [le4_cells' n]
  have HN := Lib.hid hn
  clear hn
  go_enter Try.func116, Try.ntmps116
  go_wp2_with fail
  clear hmk
  go_rounds 5
  go_ret
  exact ⟨rfl, rfl⟩

/-! ### bytes.Equal, crc.Check -/
theorem conv_sees' (w : World) (B : Nat) (A : Option Addr) (n c : Nat) (l : List UInt8) (h : Sees w B A n (cbs l)) : (convert 27 9 (.slice A n c)).run Try.prog w = .ok (.string ⟨l.toArray⟩) w :=
  conv_sees (P := Try.prog) w _ _ _ sl_u8 Try.underlying5 Try.underlying9 B A n c l h

set_option maxRecDepth 100000 in
set_option maxHeartbeats 400000 in
/-- bytes.Equal -/
theorem equal_any (A A' : Option Addr) (n c n' c' : Nat) (l l' : List UInt8) (B B' : Nat) (w : World) (hs : Sees w B A n (cbs l)) (hs' : Sees w B' A' n' (cbs l')) :
    Calls Try.prog 142 #[.slice A n c, .slice A' n' c'] w fun e w' => e = .returned (.bool (l == l')) ∧ w' = w := by
  have h1 := conv_sees' w B A n c l hs
  have h2 := conv_sees' w B' A' n' c' l' hs'
  go_enter Try.func142, Try.ntmps142
  go_wp2_with fail
  go_ret
  exact ⟨rfl, rfl⟩

/-- a sum's bytes, seen in memory -/
theorem le4_sees (w : World) (n : Nat) : Sees (w.alloc (.cells (cbs (le4 n)).toArray 5)) (w.alloc (.cells (cbs (le4 n)).toArray 5)).heap.size (some ⟨w.heap.size, 0, none⟩) 4 (cbs (le4 n)) :=
  sees_new w (cbs (le4 n)).toArray 5

set_option maxRecDepth 100000 in
set_option maxHeartbeats 400000 in
/-- crc.Check -/
theorem check_any (A A' : Option Addr) (n c n' c' : Nat) (l l' : List UInt8) (B B' : Nat) (w : World) (hs : Sees w B A n (cbs l)) (hB : B ≤ w.heap.size) (hs' : Sees w B' A' n' (cbs l')) (hB' : B' ≤ w.heap.size) (hn : n ≤ 9223372036854775807) :
    Calls Try.prog 129 #[.slice A n c, .slice A' n' c'] w fun e w' => e = .returned (.bool (le4 (crcOf l) == l')) ∧ Below w.heap.size w w' := by
  have HO := Lib.hid (of_any A n c l B w hs hn)
  have HB := Lib.hid (bytes_any (crcOf l) w (crc_lt l))
  have HE := Lib.hid (equal_any (some ⟨w.heap.size, 0, none⟩) A' 4 4 n' c' (le4 (crcOf l)) l' _ _ _ (le4_sees w (crcOf l)) (hs'.alloc hB' _))
  clear hs hs'
  go_enter Try.func129, Try.ntmps129
  go_wp2_with (first
    | (go_at_call 117; refine HO.out.mono ?_; rintro e w' ⟨rfl, rfl⟩)
    | (go_at_call 116; refine HB.out.mono ?_; rintro e w' ⟨rfl, rfl⟩)
    | (go_at_call 142; refine HE.out.mono ?_; rintro e w' ⟨rfl, rfl⟩))
  go_ret
  exact ⟨rfl, (Below.refl _ _).alloc (Nat.le_refl _) _⟩
end Go.Proofs.Ytmhgbpgbnfdokaa
