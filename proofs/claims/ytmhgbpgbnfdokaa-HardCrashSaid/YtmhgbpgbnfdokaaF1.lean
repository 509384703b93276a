/- The walks of package frame's small functions: Size, head, length; bytes.Clone. -/
import Derived.Test.YtmhgbpgbnfdokaaC1
import Derived.Test.YtmhgbpgbnfdokaaFree
import Derived.Test.YtmhgbpgbnfdokaaFrM
import Derived.Deep.RegionWith
import Derived.Deep.DeepCutAuto
import Derived.BigQuiet
namespace Go.Proofs.Ytmhgbpgbnfdokaa
open Go.RowKit

theorem add_zero_map (A : Option Addr) : A.map (·.add 0) = A := by
  cases A with
  | none => rfl
  | some a => simp [Addr.add]
/-- 'b[:k]' -/
theorem slice_upto (A : Option Addr) (n c : Nat) (z : Int) (k : Nat) (hz : z = (k : Int)) (hk : k ≤ c) (W : World) :
    (Instr.slice 27 (.slice A n c) none (some (.int .i64 z)) none).run Try.prog W = .ok (.slice A k c) W := by
  subst hz
  have h := run_slice_h (P := Try.prog) (w := W) 27 A n c (by kernel_rfl) .i64 (k : Int) (by omega) (by omega)
  have hs : (sizeOf (Try.prog.elem 27)).run Try.prog W = .ok 1 W := by go_simp
  rw [h, hs]
  simp only [Result.andThen, sliced, Nat.zero_mul, add_zero_map, ite_self, Int.toNat_natCast, Nat.sub_zero]
theorem ret_i64 {a b : Int} (h : a = b) : Ending.returned (.int .i64 a) = .returned (.int .i64 b) := by rw [h]

set_option maxRecDepth 100000 in
set_option maxHeartbeats 400000 in
/-- frame.Size -/
theorem size_any (n : Int) (w : World) (h : n ≤ 4611686018427387904) :
    Calls Try.prog 101 #[.int .i64 n] w fun e w' => e = .returned (.int .i64 (max n 0 + 8)) ∧ w' = w := by
  go_enter Try.func101, Try.ntmps101
  go_wp2_with fail
  all_goals
    go_ret
    exact ⟨ret_i64 (by omega), rfl⟩

theorem hd_cells (n : Nat) : (cbs (hd n)).toArray = #[Value.int .u8 ((n : Int) / 256 % 256), Value.int .u8 ((n : Int) % 256), Value.int .u8 (255 - (n : Int) / 256 % 256), Value.int .u8 (255 - (n : Int) % 256)] := by
  have h1 : ∀ m : Nat, cb (255 - UInt8.ofNat m) = .int .u8 (255 - (m : Int) % 256) := fun m => by
    unfold cb
    have h := UInt8.toNat_sub 255 (UInt8.ofNat m)
    rw [h, UInt8.toNat_ofNat']
    have : (255 : UInt8).toNat = 255 := rfl
    rw [this]
    congr 1
    omega
  simp only [hd, cbs, List.map_cons, List.map_nil, cb_ofNat, h1]
  simp

set_option maxRecDepth 100000 in
set_option maxHeartbeats 400000 in
/-- frame.head -/
theorem head_any (n : Nat) (w : World) (_h : n ≤ 140737488355328) :
    Calls Try.prog 115 #[.int .i64 (n : Int)] w fun e w' => e = .returned (.slice (some ⟨w.heap.size, 0, none⟩) 4 4) ∧ w' = w.alloc (.cells (cbs (hd n)).toArray 5) := by
  rw [hd_cells]
  go_enter Try.func115, Try.ntmps115
  go_wp2_with fail
  go_ret
  exact ⟨rfl, rfl⟩

set_option maxRecDepth 100000 in
set_option maxHeartbeats 400000 in
/-- bytes.Clone -/
theorem bclone_any (A : Option Addr) (n c : Nat) (l : List UInt8) (B : Nat) (w : World) (hs : Sees w B A n (cbs l)) (hB : B ≤ w.heap.size) (hn : n ≤ 140737488355328) :
    Calls Try.prog 102 #[.slice A n c] w fun e w' => ∃ A' c', e = .returned (.slice A' n c') ∧ Free w' w.heap.size 5 A' n c' (cbs l) ∧ Below w.heap.size w w' := by
  obtain ⟨i0, hi0, hz0, hz1, hz2⟩ := info_parts u8_row
  rcases A with _ | a
  · have hn0 : n = 0 := by
      rcases Nat.eq_zero_or_pos n with h | h
      · exact h
      · obtain ⟨_, _, h1, _⟩ := hs.2 h
        cases h1
    subst hn0
    have hl0 : l = [] := List.eq_nil_of_length_eq_zero (by have := hs.1; simpa using this)
    subst hl0
    have heq := fun W => Lib.run_eql_slice_nil (P := Try.prog) W 27 5 none 0 c 0 0 sl_u8
    go_enter Try.func102, Try.ntmps102
    go_wp2_with fail
    go_ret
    exact ⟨none, 0, rfl, Free.nil _ _ _, Below.refl _ _⟩
  · have heq := fun W => Lib.run_eql_slice_nil (P := Try.prog) W 27 5 (some a) n c 0 0 sl_u8
    go_enter Try.func102, Try.ntmps102
    have hc1 : 0 + n ≤ maxLen := by rw [Nat.zero_add]; exact Nat.le_trans hn (by decide)
    have hc2 : (0 + n) * 1 ≤ 140737488355328 := by rw [Nat.mul_one, Nat.zero_add]; exact hn
    have hown : (w.alloc (.cells #[] 5)).ownsRow w.heap.size 5 1 (.slice (some ⟨w.heap.size, 0, none⟩) 0 0) 0 [] := World.ownsRow_made w _ 0 (Nat.le_refl _) (by decide) rfl
    go_wp2_with (at_builtin; refine wpList_append_sees _ rfl (.tmp 5) (.tmp 6) _ rfl w.heap.size 5 i0 _ 1 sl_u8 hi0 hz0 hz1 hz2 rfl (.slice (some ⟨w.heap.size, 0, none⟩) 0 0) 0 [] rfl hown B (some a) n c (cbs l) rfl (hs.alloc hB _) (cbs_one l) hc1 hc2 (by simp) ?_; intro v2 w2 hown2 hg2 hat2)
    go_ret
    rw [Nat.zero_add, List.nil_append] at hown2
    obtain ⟨A2, c2, rfl, _, _⟩ := own_form hown2
    exact ⟨A2, c2, rfl, Free.of_own hown2, ((Below.refl _ _).alloc (Nat.le_refl _) _).grown hg2 (by simp) (fun g hg => by simp [Value.ownBlock] at hg; omega)⟩

theorem i64_or_nat (a b : Nat) (ha : a < 9223372036854775808) (hb : b < 9223372036854775808) : bits .or .i64 (a : Int) (b : Int) = ((a ||| b : Nat) : Int) := by
  have hx : a ||| b < 2 ^ 63 := Nat.or_lt_two_pow (by omega) (by omega)
  show IntKind.i64.wrap ((BitVec.ofInt 64 (a : Int) ||| BitVec.ofInt 64 (b : Int)).toNat : Int) = _
  rw [BitVec.toNat_or, ofInt_u64 a (by omega), ofInt_u64 b (by omega), IntKind.wrap_i64]
  omega
/-- the operation of a head: shifted, and the next byte laid in -/
theorem shl_or_int (a x : UInt8) : bits BinOp.or IntKind.i64 (wrap64 (wrap64 (a.toNat : Int) * 256)) (wrap64 (x.toNat : Int)) = ((a.toNat * 256 + x.toNat : Nat) : Int) := by
  have ha : a.toNat < 256 := UInt8.toNat_lt a
  have hx : x.toNat < 256 := UInt8.toNat_lt x
  have h1 : wrap64 (wrap64 (a.toNat : Int) * 256) = ((a.toNat * 256 : Nat) : Int) := by unfold wrap64; omega
  have h2 : wrap64 (x.toNat : Int) = ((x.toNat : Nat) : Int) := by unfold wrap64; omega
  rw [h1, h2, i64_or_nat _ _ (by omega) (by omega), shl_or_byte]
theorem head_same (b0 b1 b2 b3 : UInt8) (N : Nat) (h : b0.toNat * 256 + b1.toNat = N) : ([b0, b1, b2, b3] == hd N) = decide (b0 + b2 = 255 ∧ b1 + b3 = 255) := by
  have e0 : UInt8.ofNat (N / 256) = b0 := by
    apply UInt8.toNat_inj.1
    have := UInt8.toNat_lt b0
    have := UInt8.toNat_lt b1
    simp only [UInt8.toNat_ofNat']
    omega
  have e1 : UInt8.ofNat N = b1 := by
    apply UInt8.toNat_inj.1
    have := UInt8.toNat_lt b1
    simp only [UInt8.toNat_ofNat']
    omega
  rw [Bool.eq_iff_iff, beq_iff_eq, decide_eq_true_iff, byte_sum, byte_sum]
  unfold hd
  rw [e0, e1]
  simp

set_option maxRecDepth 100000 in
set_option maxHeartbeats 400000 in
/-- frame.length -/
theorem length_any (A : Option Addr) (n c : Nat) (l : List UInt8) (B : Nat) (w : World) (hs : Sees w B A n (cbs l)) (hB : B ≤ w.heap.size) (hc : n ≤ c) (hm : c ≤ maxLen) :
    Calls Try.prog 128 #[.slice A n c] w fun e w' => e = .returned (.tuple #[.int .i64 ((lenF l).1 : Int), .int .i64 ((lenF l).2 : Int)]) ∧ Below w.heap.size w w' := by
  have hlen : l.length = n := by have := hs.1; simpa using this
  have hm9 : c ≤ 9223372036854775807 := hm
  clear hm
  by_cases h4 : n < 4
  · have hz : (n : Int) < 4 := by omega
    rw [lenF_short (by omega)]
    go_enter Try.func128, Try.ntmps128
    go_wp2_with fail
    go_ret2
    exact ⟨rfl, Below.refl _ _⟩
  · have hz : ¬ (n : Int) < 4 := by omega
    have hHd := hs.take (k := 4) (by omega)
    obtain ⟨b0, b1, b2, b3, r, rfl⟩ := lenF_long (b := l) (by omega)
    obtain ⟨b, off, u, rfl, hb, hu, c0⟩ := hs.at_ (k := 0) (by omega)
    obtain ⟨b', off', u', hA, _, hu', c1⟩ := hs.at_ (k := 1) (by omega)
    injection hA with hA
    injection hA with e1 e2
    subst e1
    subst e2
    have hu0 : cb b0 = u := by simpa [cbs] using hu
    have hu1 : cb b1 = u' := by simpa [cbs] using hu'
    subst hu0
    subst hu1
    unfold cb at c0 c1
    rw [Nat.add_zero] at c0
    have ho := shl_or_int b0 b1
    have hsame := head_same b0 b1 b2 b3 _ rfl
    have hle : b0.toNat * 256 + b1.toNat ≤ 65535 := by have := UInt8.toNat_lt b0; have := UInt8.toNat_lt b1; omega
    have hlenF : lenF (b0 :: b1 :: b2 :: b3 :: r) = if b0 + b2 = 255 ∧ b1 + b3 = 255 then (if 4096 < b0.toNat * 256 + b1.toNat then (0, 4) else (b0.toNat * 256 + b1.toNat, 0)) else (0, 3) := rfl
    generalize b0.toNat * 256 + b1.toNat = N at *
    generalize lenF (b0 :: b1 :: b2 :: b3 :: r) = LF at *
    have HSM := Lib.hid hsame
    have HLF := Lib.hid hlenF
    clear hsame hlenF
    have hk1 : 1 < n := by omega
    have hk0 : 0 < n := by omega
    have hk4 : 4 ≤ c := by omega
    clear hu hu' hlen
    go_enter Try.func128, Try.ntmps128
    go_wp2_with fail
    go_quiet (fail)
    have hs1 := (hs.drewN nq).take (k := 4) (by omega)
    have hb1 := below_drewN (Below.refl w.heap.size w) nq
    have hB1 : B ≤ (w.drewN nq).heap.size := hB
    have hd1 : List.take 4 (cbs (b0 :: b1 :: b2 :: b3 :: r)) = cbs [b0, b1, b2, b3] := rfl
    rw [hd1] at hs1
    clear c0 c1 hs hHd hd1
    generalize w.drewN nq = w1 at *
    clear ho
    generalize [b0, b1, b2, b3] = four at *
    go_upto_region 4 with (fail)
    go_cut [23] (fun t wx => t = .bool (!(four == hd N)) ∧ Below w.heap.size w wx)
    case first =>
      have hd2 := hb1.drew
      go_region_with (first
        | (go_at_call 115; refine (head_any N _ (by omega)).mono ?_; rintro e w2 ⟨rfl, rfl⟩)
        | (go_at_call 142; refine (equal_any _ _ 4 c 4 4 four (hd N) B _ _ (hs1.drew.alloc hB1 _) (sees_new _ _ _)).mono ?_; rintro e w3 ⟨rfl, rfl⟩))
      all_goals
        go_wp2_with fail
        go_meet
        exact ⟨rfl, hd2.alloc hd2.size _⟩
    case rest =>
      obtain ⟨rfl, hbc⟩ := hcut
      have hlf := HLF.out
      have hsm := HSM.out
      clear HLF hs1 hb1 hB1 HSM
      generalize (four == hd N) = q at *
      by_cases hgood : b0 + b2 = 255 ∧ b1 + b3 = 255
      · rw [if_pos hgood] at hlf
        have hq : q = true := by rw [hsm]; exact decide_eq_true hgood
        subst hq
        clear hsm hgood
        by_cases h9 : 4096 < N
        · have h9' : (4096 : Int) < (N : Int) := by omega
          rw [if_pos h9] at hlf
          subst hlf
          go_wp2_with fail
          go_ret2
          exact ⟨rfl, hbc⟩
        · have h9' : ¬ (4096 : Int) < (N : Int) := by omega
          rw [if_neg h9] at hlf
          subst hlf
          go_wp2_with fail
          go_ret2
          exact ⟨rfl, hbc⟩
      · rw [if_neg hgood] at hlf
        have hq : q = false := by rw [hsm]; exact decide_eq_false hgood
        subst hq
        clear hsm hgood
        subst hlf
        go_wp2_with fail
        go_ret2
        exact ⟨rfl, hbc⟩
end Go.Proofs.Ytmhgbpgbnfdokaa
