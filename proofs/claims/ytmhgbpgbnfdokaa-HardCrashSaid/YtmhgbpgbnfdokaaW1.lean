/- The walks of package word's and slices' small functions: numbers as bytes, rows joined, a row's copy. -/
import Derived.Test.YtmhgbpgbnfdokaaCore
import Derived.Test.YtmhgbpgbnfdokaaNum
import Derived.Test.YtmhgbpgbnfdokaaChecked
import Derived.WalkKit
import Derived.WalkSpells
import Derived.WalkLawsBesides
import Derived.Deep.OwnRows
import Derived.Lib.Hide
import Derived.Outline
namespace Go.Proofs.Ytmhgbpgbnfdokaa
open Go.RowKit

theorem u8_row : (Try.prog.info? 5).map (fun i => (i.zero, i.size, i.bytes)) = some (some (.int .u8 0), 1, 1) := by kernel_rfl
theorem sl_u8 : Try.prog.underlying 27 = some (.slice 5) := Try.underlying27
theorem int_i64 : Try.prog.underlying 3 = some (.int .i64) := Try.underlying3

/-- the operation of a round: shifted, and the next byte laid in -/
theorem shl_or_cell (a : Nat) (x : UInt8) (h : a * 256 + 255 < 18446744073709551616) :
    bits BinOp.or IntKind.u64 (IntKind.u64.wrap ((a : Int) * 256)) (IntKind.u64.wrap (x.toNat : Int)) = ((a * 256 + x.toNat : Nat) : Int) := by
  have hx : x.toNat < 256 := UInt8.toNat_lt x
  have hA : a * 256 < 18446744073709551616 := Nat.lt_of_le_of_lt (Nat.le_add_right _ _) h
  have hB : x.toNat < 18446744073709551616 := Nat.lt_trans hx (by decide)
  have h1 : IntKind.u64.wrap ((a : Int) * 256) = ((a * 256 : Nat) : Int) := by
    rw [IntWalk.u64_in _ (by omega), Int.natCast_mul]
    rfl
  have h2 : IntKind.u64.wrap (x.toNat : Int) = (x.toNat : Int) := IntWalk.u64_in _ (by omega)
  rw [h1, h2, u64_or_nat _ _ hA hB, shl_or_byte]

set_option maxRecDepth 100000 in
set_option maxHeartbeats 400000 in
/-- word.number: of at most eight bytes the number that they are. -/
theorem number_any (A : Option Addr) (n c : Nat) (l : List UInt8) (B : Nat) (w : World) (hs : Sees w B A n (cbs l)) (hn : n ≤ 8) :
    Calls Try.prog 111 #[.slice A n c] w fun e w' => e = .returned (.int .u64 (num l : Int)) ∧ w' = w := by
  go_enter Try.func111, Try.ntmps111
  go_wp2
  have hl : l.length = n := by have := hs.1; simpa using this
  go_loop [3, 8] (fun v i => ∃ k : Nat, k ≤ n ∧ i = .int .i64 k ∧ v = .int .u64 (num (l.take k) : Int)) (fun _ i => n - (intOf i).toNat)
  case atStart => exact ⟨0, Nat.zero_le _, rfl, rfl⟩
  case round =>
    obtain ⟨k, hk, rfl, rfl⟩ := hrel
    by_cases hlt : k < n
    · obtain ⟨b, off, u, rfl, _, hu, hc⟩ := hs.at_ hlt
      rw [cbs_get, List.getElem?_eq_getElem (by omega)] at hu
      have hu' : cb (l[k]'(by omega)) = u := by simpa using hu
      subst hu'
      unfold cb at hc
      go_wp2_with fail
      go_round
      case rel => exact ⟨k + 1, by omega, by go_num, by rw [num_take_succ l k (by omega), shl_or_cell _ _ (num_take_bd l k (by omega))]⟩
      case measure => simp [intOf]; omega
    · go_wp2_with fail
      go_ret
      first | exact ⟨rfl, rfl⟩ | exact ⟨by rw [List.take_of_length_le (by omega)]; rfl, rfl⟩

/-- the cells of a row that is filled from its end -/
def fillRow (N size k : Nat) : Array Value := (List.replicate (size - k) (Value.int .u8 0) ++ cbs (be N k)).toArray
theorem fillRow_zero (N size : Nat) : fillRow N size 0 = (List.replicate size (Value.int .u8 0)).toArray := by simp [fillRow, be]
theorem fillRow_get (N size k i : Nat) (h : i + k < size) : (fillRow N size k)[i]? = some (Value.int .u8 0) := by
  simp only [fillRow, List.getElem?_toArray]
  rw [List.getElem?_append_left (by simp; omega), List.getElem?_replicate, if_pos (by omega)]
theorem fillRow_step (N size k : Nat) (h : k < size) : (fillRow N size k).setIfInBounds (size - 1 - k) (cb (UInt8.ofNat (N / 256 ^ k))) = fillRow N size (k + 1) := by
  simp only [fillRow, List.setIfInBounds_toArray, be]
  congr 1
  rw [show size - k = (size - 1 - k) + 1 from by omega, show size - (k + 1) = size - 1 - k from by omega, List.replicate_succ']
  rw [List.set_append_left _ _ (by simp), List.set_append_right _ _ (by simp)]
  simp [cbs]
theorem cb_ofNat (m : Nat) : cb (UInt8.ofNat m) = .int .u8 ((m : Int) % 256) := by
  unfold cb
  rw [UInt8.toNat_ofNat']
  congr 1

set_option maxRecDepth 100000 in
set_option maxHeartbeats 400000 in
/-- word.highestFirst -/
theorem highestFirst_any (N size : Nat) (w : World) (_hN : N < 18446744073709551616) (hsz : size ≤ 8) :
    Calls Try.prog 98 #[.int .u64 (N : Int), .int .i64 (size : Int)] w fun e w' => ∃ g, e = .returned (.slice (some ⟨g, 0, none⟩) size size) ∧ Sees w' w'.heap.size (some ⟨g, 0, none⟩) size (cbs (be N size)) ∧ Below w.heap.size w w' := by
  have hmk := fun W => run_make_row' (P := Try.prog) 27 5 (.int .u8 0) 1 sl_u8 u8_row rfl .i64 .i64 size (by omega) (by omega) W
  go_enter Try.func98, Try.ntmps98
  go_wp2
  clear hmk
  have hnew : Blk (w.alloc (.cells (madeCells #[.int .u8 0] size) 5)) w.heap.size 5 (fillRow N size 0) := by
    rw [fillRow_zero, ← toList_madeCells_one]
    exact Blk.new w _ _
  go_loopw [0, 11] (fun v i wr => ∃ k : Nat, k ≤ size ∧ i = .int .i64 k ∧ v = .int .u64 ((N / 256 ^ k : Nat) : Int) ∧ Blk wr w.heap.size 5 (fillRow N size k) ∧ Below w.heap.size w wr) (fun _ i _ => size - (intOf i).toNat)
  case atStart => exact ⟨0, Nat.zero_le _, rfl, by simp, hnew, (Below.refl _ _).alloc (Nat.le_refl _) _⟩
  case round =>
    obtain ⟨k, hk, rfl, rfl, hblk, hbel⟩ := hrel
    by_cases hlt : k < size
    · have h0 : 0 ≤ (size : Int) - 1 - k := by omega
      have h1 : ((size : Int) - 1 - k).toNat = size - 1 - k := by omega
      have hcell : wr.cell? ⟨w.heap.size, size - 1 - k, none⟩ = some (.int .u8 0) := by rw [hblk.cell]; exact fillRow_get N size k _ (by omega)
      have hfr : wr.frozen? ⟨w.heap.size, size - 1 - k, none⟩ = false := hblk.frozen _
      have HB := Lib.hid hblk
      clear hblk
      go_wp2_with fail
      have e1 : (N : Int) / 256 ^ k / 256 = ((N / 256 ^ (k + 1) : Nat) : Int) := by rw [Nat.pow_succ, ← Nat.div_div_eq_div_mul]; simp
      have e2 : ((N : Int) / 256 ^ k % 256) = ((N / 256 ^ k : Nat) : Int) % 256 := by simp
      have hset := HB.out.set_ (size - 1 - k) (cb (UInt8.ofNat (N / 256 ^ k)))
      rw [fillRow_step N size k hlt, cb_ofNat, ← e2] at hset
      go_roundw
      case rel => exact ⟨k + 1, by omega, by go_num, by rw [e1], hset, hbel.setCell (Nat.le_refl _) _⟩
      case measure => simp [intOf]; omega
    · go_wp2_with fail
      go_ret
      have hk' : k = size := by omega
      subst hk'
      refine ⟨w.heap.size, rfl, ⟨by simp, fun _ => ⟨w.heap.size, 0, rfl, hblk.lt, fun j u hu => ?_⟩⟩, hbel⟩
      rw [hblk.cell]
      simp only [fillRow, Nat.sub_self, List.replicate_zero, List.nil_append, List.getElem?_toArray, Nat.zero_add]
      exact hu

/-! ### slices.Grow of nil, slices.Concat, slices.Clone -/
set_option maxRecDepth 100000 in
set_option maxHeartbeats 400000 in
/-- slices.Grow(nil, n): a row of the call's own with nothing in it yet (nil, if n is 0). -/
theorem grow_nil (n : Nat) (w : World) (hn : n ≤ 140737488355328) :
    Calls Try.prog 114 #[.slice none 0 0, .int .i64 (n : Int)] w fun e w' => ∃ v, e = .returned v ∧ w'.ownsRow w.heap.size 5 1 v 0 [] ∧ Below w.heap.size w w' := by
  obtain ⟨i0, hi0, hz0, hz1, hz2⟩ := info_parts u8_row
  by_cases h0 : n = 0
  · subst h0
    go_enter Try.func114, Try.ntmps114
    go_wp2_with fail
    go_ret
    exact ⟨_, rfl, World.ownsRow_nil _ _ _ _, Below.refl _ _⟩
  · have hr := fun ty => Lib.run_append_nil_zeros (P := Try.prog) w 27 3 ty 5 i0 _ .i64 .i64 sl_u8 int_i64 hi0 hz0 n (by omega) (by omega) (by omega) (by rw [hz2]; omega)
    go_enter Try.func114, Try.ntmps114
    go_wp2_with (at_builtin; refine Lib.wpList_append_run _ rfl _ _ _ _ rfl _ _ rfl rfl _ _ (hr _) ?_)
    go_ret
    have hge := grownCap_ge w n 0 5
    have hle := grownCap_le_maxLen w n 0 5 (by simp only [maxLen]; omega)
    refine ⟨_, rfl, (World.ownsRow_made w _ _ (Nat.le_refl _) hle ?_).drew, ((Below.refl _ _).alloc (Nat.le_refl _) _).drew⟩
    simp only [Array.size_append, size_zeroCells]
    simp
    omega

/-- a part that is joined: a slice of bytes -/
structure Part where
  A : Option Addr
  n : Nat
  c : Nat
  l : List UInt8
def Part.v (p : Part) : Value := .slice p.A p.n p.c
/-- all the parts' bytes, one behind the other -/
def cat (ps : List Part) : List UInt8 := ps.flatMap (·.l)
theorem cat_take_succ (ps : List Part) (k : Nat) (h : k < ps.length) : cat (ps.take (k + 1)) = cat (ps.take k) ++ ps[k].l := by
  unfold cat
  rw [List.take_succ_eq_append_getElem h, List.flatMap_append]
  simp only [List.flatMap_cons, List.flatMap_nil, List.append_nil]
theorem cat_take_le (ps : List Part) (k : Nat) : (cat (ps.take k)).length ≤ (cat ps).length := by
  have h : cat ps = cat (ps.take k) ++ cat (ps.drop k) := by unfold cat; rw [← List.flatMap_append, List.take_append_drop]
  rw [h, List.length_append]
  omega

set_option maxRecDepth 100000 in
set_option maxHeartbeats 800000 in
/-- slices.Concat: the parts' bytes, one behind the other, in a row of the call's own. -/
theorem concat_any (S : Option Addr) (n c : Nat) (ps : List Part) (w : World) (hS : Sees w w.heap.size S n (ps.map Part.v))
    (hp : ∀ p ∈ ps, Sees w w.heap.size p.A p.n (cbs p.l)) (hT : (cat ps).length ≤ 140737488355328) (hn : n ≤ 140737488355328) :
    Calls Try.prog 97 #[.slice S n c] w fun e w' => ∃ v, e = .returned v ∧ w'.ownsRow w.heap.size 5 1 v (cat ps).length (cbs (cat ps)) ∧ Below w.heap.size w w' := by
  obtain ⟨i0, hi0, hz0, hz1, hz2⟩ := info_parts u8_row
  have hl : ps.length = n := by have := hS.1; simpa using this
  have HT := Lib.hid hT
  clear hT
  go_enter Try.func97, Try.ntmps97
  go_wp2_with fail
  go_loop [3, 11] (fun v i => ∃ k : Nat, k ≤ n ∧ i = .int .i64 k ∧ v = .int .i64 ((cat (ps.take k)).length : Int)) (fun _ i => n - (intOf i).toNat)
  case atStart => exact ⟨0, Nat.zero_le _, rfl, rfl⟩
  case round =>
    obtain ⟨k, hk, rfl, rfl⟩ := hrel
    by_cases hlt : k < n
    · obtain ⟨b, off, u, rfl, _, hu, hc⟩ := hS.at_ hlt
      have hb1 := cat_take_le ps k
      have hb2 := cat_take_le ps (k + 1)
      rw [cat_take_succ ps k (by omega), List.length_append] at hb2
      have hs := hp ps[k] (List.getElem_mem _)
      have hnext := cat_take_succ ps k (by omega)
      have hTT := HT.out
      rw [List.getElem?_map, List.getElem?_eq_getElem (by omega)] at hu
      rcases hpk : ps[k]'(by omega) with ⟨A', n', c', l'⟩
      rw [hpk] at hu hs hb2 hnext
      simp only [Option.map_some, Option.some.injEq, Part.v] at hu
      subst hu
      have hl' : l'.length = n' := by have := hs.1; simpa using this
      have hb3 : (cat (List.take k ps)).length + n' ≤ 140737488355328 := by simp only [hl'] at hb2; omega
      have HN := Lib.hid hnext
      have HL := Lib.hid hl'
      clear hpk hnext hl' hb2 hb1 hTT
      go_wp2_with fail
      go_round
      case rel => exact ⟨k + 1, by omega, by go_num, by rw [HN.out, List.length_append]; simp only [HL.out]; go_num⟩
      case measure => simp [intOf]; omega
    · have hk' : ps.take k = ps := List.take_of_length_le (by omega)
      rw [hk']
      clear hk'
      have hT1 := HT.out
      go_wp2_with fail
      refine (grow_nil (cat ps).length _ (by omega)).mono ?_
      rintro e w1 ⟨v0, rfl, hown0, hbel0⟩
      clear hT1
      go_wp2_with fail
      go_loopw [6, 27] (fun v i wr => ∃ k : Nat, k ≤ n ∧ i = .int .i64 k ∧ wr.ownsRow w.heap.size 5 1 v (cat (ps.take k)).length (cbs (cat (ps.take k))) ∧ Below w.heap.size w wr) (fun _ i _ => n - (intOf i).toNat)
      case atStart => exact ⟨0, Nat.zero_le _, rfl, hown0, hbel0⟩
      case round =>
        obtain ⟨j, hj, rfl, hown, hbel⟩ := hrel
        by_cases hlt : j < n
        · obtain ⟨b, off, u, rfl, hbw, hu, hc0⟩ := hS.at_ hlt
          have hc : wr.cell? ⟨b, off + j, none⟩ = some u := (hbel.cell hbw).trans hc0
          clear hc0
          have hb2 := cat_take_le ps (j + 1)
          rw [cat_take_succ ps j (by omega), List.length_append] at hb2
          have hs := hp ps[j] (List.getElem_mem _)
          have hnext := cat_take_succ ps j (by omega)
          have hTT := HT.out
          rw [List.getElem?_map, List.getElem?_eq_getElem (by omega)] at hu
          rcases hpk : ps[j]'(by omega) with ⟨A', n', c', l'⟩
          rw [hpk] at hu hs hb2 hnext
          simp only [Option.map_some, Option.some.injEq, Part.v] at hu
          subst hu
          have hl' : l'.length = n' := by have := hs.1; simpa using this
          have hb3 : (cat (List.take j ps)).length + n' ≤ 140737488355328 := by simp only [hl'] at hb2; omega
          have HN := Lib.hid hnext
          have HL := Lib.hid hl'
          have HO := Lib.hid hown
          obtain ⟨A1, c1, rfl, _, _⟩ := own_form hown
          have hc1 : (cat (List.take j ps)).length + n' ≤ maxLen := Nat.le_trans hb3 (by decide)
          have hc2 : ((cat (List.take j ps)).length + n') * 1 ≤ 140737488355328 := by rw [Nat.mul_one]; exact hb3
          have hs' : Sees wr w.heap.size A' n' (cbs l') := Sees.below hs hbel
          clear hpk hnext hl' hb2 hTT hown hs
          go_wp2_with (at_builtin; (refine wpList_append_sees _ rfl (.tmp 31) (.tmp 32) _ rfl w.heap.size 5 i0 _ 1 sl_u8 hi0 hz0 hz1 hz2 rfl (.slice A1 (cat (List.take j ps)).length c1) _ _ rfl HO.out w.heap.size A' n' c' (cbs l') rfl hs' (cbs_one l') hc1 hc2 hbel.size ?_); intro v2 w2 hown2 hg2 hat2)
          have hown3 : w2.ownsRow w.heap.size 5 1 v2 (cat (List.take (j + 1) ps)).length (cbs (cat (List.take (j + 1) ps))) := by
            rw [HN.out, List.length_append, cbs_append]
            simp only [HL.out]
            exact hown2
          have hbel2 : Below w.heap.size w w2 := hbel.grown hg2 hbel.size (fun g hg => (HO.out.lt g hg).1)
          clear hown2 hg2 hat2
          go_roundw
          case rel => exact ⟨j + 1, by omega, by go_num, hown3, hbel2⟩
          case measure => simp [intOf]; omega
        · go_wp2_with fail
          go_ret
          have hj' : ps.take j = ps := List.take_of_length_le (by omega)
          rw [hj'] at hown
          exact ⟨_, rfl, hown, hbel⟩

set_option maxRecDepth 100000 in
/-- what Concat gives, as a caller takes it -/
theorem concat_sees (S : Option Addr) (n c : Nat) (ps : List Part) (w : World) (hS : Sees w w.heap.size S n (ps.map Part.v))
    (hp : ∀ p ∈ ps, Sees w w.heap.size p.A p.n (cbs p.l)) (hT : (cat ps).length ≤ 140737488355328) (hn : n ≤ 140737488355328) :
    Calls Try.prog 97 #[.slice S n c] w fun e w' => ∃ A c', e = .returned (.slice A (cat ps).length c') ∧ Sees w' w'.heap.size A (cat ps).length (cbs (cat ps)) ∧ (cat ps).length ≤ c' ∧ c' ≤ maxLen ∧ Below w.heap.size w w' :=
  (concat_any S n c ps w hS hp hT hn).mono fun e w' ⟨v, he, hown, hb⟩ => by
    obtain ⟨A, c', rfl, h1, h2⟩ := own_form hown
    exact ⟨A, c', he, Sees.of_own hown, h1, h2, hb⟩

set_option maxRecDepth 100000 in
set_option maxHeartbeats 400000 in
/-- slices.Clone -/
theorem clone_any (A : Option Addr) (n c : Nat) (l : List UInt8) (w : World) (hs : Sees w w.heap.size A n (cbs l)) (hn : n ≤ 140737488355328) :
    Calls Try.prog 95 #[.slice A n c] w fun e w' => ∃ v, e = .returned v ∧ w'.ownsRow w.heap.size 5 1 v n (cbs l) ∧ Below w.heap.size w w' := by
  obtain ⟨i0, hi0, hz0, hz1, hz2⟩ := info_parts u8_row
  rcases A with _ | a
  · have hn0 : n = 0 := by
      rcases Nat.eq_zero_or_pos n with h | h
      · exact h
      · obtain ⟨_, _, h1, _⟩ := hs.2 h
        cases h1
    subst hn0
    have hl0 : l = [] := List.eq_nil_of_length_eq_zero (by have := hs.1; simpa using this)
    subst hl0
    have heq := fun W => Lib.run_eql_slice_nil (P := Try.prog) W 27 5 none 0 c 0 0 sl_u8
    go_enter Try.func95, Try.ntmps95
    go_wp2_with fail
    go_ret
    exact ⟨_, rfl, World.ownsRow_nil _ _ _ _, Below.refl _ _⟩
  · have heq := fun W => Lib.run_eql_slice_nil (P := Try.prog) W 27 5 (some a) n c 0 0 sl_u8
    go_enter Try.func95, Try.ntmps95
    have hc1 : 0 + n ≤ maxLen := by rw [Nat.zero_add]; exact Nat.le_trans hn (by decide)
    have hc2 : (0 + n) * 1 ≤ 140737488355328 := by rw [Nat.mul_one, Nat.zero_add]; exact hn
    have hown : (w.alloc (.cells #[] 5)).ownsRow w.heap.size 5 1 (.slice (some ⟨w.heap.size, 0, none⟩) 0 0) 0 [] := World.ownsRow_made w _ 0 (Nat.le_refl _) (by decide) rfl
    go_wp2_with (at_builtin; refine wpList_append_sees _ rfl (.tmp 5) (.tmp 6) _ rfl w.heap.size 5 i0 _ 1 sl_u8 hi0 hz0 hz1 hz2 rfl (.slice (some ⟨w.heap.size, 0, none⟩) 0 0) 0 [] rfl hown w.heap.size (some a) n c (cbs l) rfl (hs.alloc (Nat.le_refl _) _) (cbs_one l) hc1 hc2 (by simp) ?_; intro v2 w2 hown2 hg2 hat2)
    go_ret
    rw [Nat.zero_add, List.nil_append] at hown2
    exact ⟨_, rfl, hown2, ((Below.refl _ _).alloc (Nat.le_refl _) _).grown hg2 (by simp) (fun g hg => by simp [Value.ownBlock] at hg; omega)⟩
end Go.Proofs.Ytmhgbpgbnfdokaa
