/- The walks of package word's and slices' small functions: numbers as bytes, rows joined, a row's copy. -/
import Derived.Test.YtlggkeoihpcdiaaChecked
import Derived.WalkKit
import Derived.WalkSpells
import Derived.WalkLawsBesides
import Derived.Deep.OwnRows
import Derived.Lib.Hide
import Derived.Outline
import Derived.Lib.ConvBytes
import Derived.Laws.IdiomStrings
import Derived.Laws.BitsAllLaws
import Derived.Laws.BitsLemmas
import Derived.Handy
import Derived.Test.YtlggkeoihpcdiaaJ1
namespace Go.Proofs.Ytlggkeoihpcdiaa
open Go.RowKit

theorem u8_row : (Try.prog.info? 5).map (fun i => (i.zero, i.size, i.bytes)) = some (some (.int .u8 0), 1, 1) := by kernel_rfl
theorem sl_u8 : Try.prog.underlying 27 = some (.slice 5) := Try.underlying27
theorem int_i64 : Try.prog.underlying 3 = some (.int .i64) := Try.underlying3

/-- the operation of a round: shifted, and the next byte laid in -/
theorem shl_or_cell (a : Nat) (x : UInt8) (h : a * 256 + 255 < 18446744073709551616) :
    bits BinOp.or IntKind.u64 (IntKind.u64.wrap ((a : Int) * 256)) (IntKind.u64.wrap (x.toNat : Int)) = ((a * 256 + x.toNat : Nat) : Int) := by
  have hx : x.toNat < 256 := UInt8.toNat_lt x
  have hA : a * 256 < 18446744073709551616 := Nat.lt_of_le_of_lt (Nat.le_add_right _ _) h
  have hB : x.toNat < 18446744073709551616 := Nat.lt_trans hx (by decide)
  have h1 : IntKind.u64.wrap ((a : Int) * 256) = ((a * 256 : Nat) : Int) := by
    rw [IntWalk.u64_in _ (by omega), Int.natCast_mul]
    rfl
  have h2 : IntKind.u64.wrap (x.toNat : Int) = (x.toNat : Int) := IntWalk.u64_in _ (by omega)
  rw [h1, h2, u64_or_nat _ _ hA hB, shl_or_byte]

set_option maxRecDepth 100000 in
set_option maxHeartbeats 400000 in
/-- word.number: of at most eight bytes the number that they are. -/
theorem number_any (A : Option Addr) (n c : Nat) (l : List UInt8) (B : Nat) (w : World) (hs : Sees w B A n (cbs l)) (hn : n ≤ 8) :
    Calls Try.prog 111 #[.slice A n c] w fun e w' => e = .returned (.int .u64 (num l : Int)) ∧ w' = w := by
  go_enter Try.func111, Try.ntmps111
  go_wp2
  have hl : l.length = n := by have := hs.1; simpa using this
  go_loop [3, 8] (fun v i => ∃ k : Nat, k ≤ n ∧ i = .int .i64 k ∧ v = .int .u64 (num (l.take k) : Int)) (fun _ i => n - (intOf i).toNat)
  case atStart => exact ⟨0, Nat.zero_le _, rfl, rfl⟩
  case round =>
    obtain ⟨k, hk, rfl, rfl⟩ := hrel
    by_cases hlt : k < n
    · obtain ⟨b, off, u, rfl, _, hu, hc⟩ := hs.at_ hlt
      rw [cbs_get, List.getElem?_eq_getElem (by omega)] at hu
      have hu' : cb (l[k]'(by omega)) = u := by simpa using hu
      subst hu'
      unfold cb at hc
      go_wp2_with fail
      go_round
      case rel => exact ⟨k + 1, by omega, by go_num, by rw [num_take_succ l k (by omega), shl_or_cell _ _ (num_take_bd l k (by omega))]⟩
      case measure => simp [intOf]; omega
    · go_wp2_with fail
      go_ret
      first | exact ⟨rfl, rfl⟩ | exact ⟨by rw [List.take_of_length_le (by omega)]; rfl, rfl⟩

/-- the cells of a row that is filled from its end -/
def fillRow (N size k : Nat) : Array Value := (List.replicate (size - k) (Value.int .u8 0) ++ cbs (be N k)).toArray
theorem fillRow_zero (N size : Nat) : fillRow N size 0 = (List.replicate size (Value.int .u8 0)).toArray := by simp [fillRow, be]
theorem fillRow_get (N size k i : Nat) (h : i + k < size) : (fillRow N size k)[i]? = some (Value.int .u8 0) := by
  simp only [fillRow, List.getElem?_toArray]
  rw [List.getElem?_append_left (by simp; omega), List.getElem?_replicate, if_pos (by omega)]
theorem fillRow_step (N size k : Nat) (h : k < size) : (fillRow N size k).setIfInBounds (size - 1 - k) (cb (UInt8.ofNat (N / 256 ^ k))) = fillRow N size (k + 1) := by
  simp only [fillRow, List.setIfInBounds_toArray, be]
  congr 1
  rw [show size - k = (size - 1 - k) + 1 from by omega, show size - (k + 1) = size - 1 - k from by omega, List.replicate_succ']
  rw [List.set_append_left _ _ (by simp), List.set_append_right _ _ (by simp)]
  simp [cbs]
theorem cb_ofNat (m : Nat) : cb (UInt8.ofNat m) = .int .u8 ((m : Int) % 256) := by
  unfold cb
  rw [UInt8.toNat_ofNat']
  congr 1

set_option maxRecDepth 100000 in
set_option maxHeartbeats 400000 in
/-- word.highestFirst -/
theorem highestFirst_any (N size : Nat) (w : World) (_hN : N < 18446744073709551616) (hsz : size ≤ 8) :
    Calls Try.prog 98 #[.int .u64 (N : Int), .int .i64 (size : Int)] w fun e w' => ∃ g, e = .returned (.slice (some ⟨g, 0, none⟩) size size) ∧ Sees w' w'.heap.size (some ⟨g, 0, none⟩) size (cbs (be N size)) ∧ Below w.heap.size w w' := by
  have hmk := fun W => run_make_row' (P := Try.prog) 27 5 (.int .u8 0) 1 sl_u8 u8_row rfl .i64 .i64 size (by omega) (by omega) W
  go_enter Try.func98, Try.ntmps98
  go_wp2
  clear hmk
  have hnew : Blk (w.alloc (.cells (madeCells #[.int .u8 0] size) 5)) w.heap.size 5 (fillRow N size 0) := by
    rw [fillRow_zero, ← toList_madeCells_one]
    exact Blk.new w _ _
  go_loopw [0, 11] (fun v i wr => ∃ k : Nat, k ≤ size ∧ i = .int .i64 k ∧ v = .int .u64 ((N / 256 ^ k : Nat) : Int) ∧ Blk wr w.heap.size 5 (fillRow N size k) ∧ Below w.heap.size w wr) (fun _ i _ => size - (intOf i).toNat)
  case atStart => exact ⟨0, Nat.zero_le _, rfl, by simp, hnew, (Below.refl _ _).alloc (Nat.le_refl _) _⟩
  case round =>
    obtain ⟨k, hk, rfl, rfl, hblk, hbel⟩ := hrel
    by_cases hlt : k < size
    · have h0 : 0 ≤ (size : Int) - 1 - k := by omega
      have h1 : ((size : Int) - 1 - k).toNat = size - 1 - k := by omega
      have hcell : wr.cell? ⟨w.heap.size, size - 1 - k, none⟩ = some (.int .u8 0) := by rw [hblk.cell]; exact fillRow_get N size k _ (by omega)
      have hfr : wr.frozen? ⟨w.heap.size, size - 1 - k, none⟩ = false := hblk.frozen _
      have HB := Lib.hid hblk
      clear hblk
      go_wp2_with fail
      have e1 : (N : Int) / 256 ^ k / 256 = ((N / 256 ^ (k + 1) : Nat) : Int) := by rw [Nat.pow_succ, ← Nat.div_div_eq_div_mul]; simp
      have e2 : ((N : Int) / 256 ^ k % 256) = ((N / 256 ^ k : Nat) : Int) % 256 := by simp
      have hset := HB.out.set_ (size - 1 - k) (cb (UInt8.ofNat (N / 256 ^ k)))
      rw [fillRow_step N size k hlt, cb_ofNat, ← e2] at hset
      go_roundw
      case rel => exact ⟨k + 1, by omega, by go_num, by rw [e1], hset, hbel.setCell (Nat.le_refl _) _⟩
      case measure => simp [intOf]; omega
    · go_wp2_with fail
      go_ret
      have hk' : k = size := by omega
      subst hk'
      refine ⟨w.heap.size, rfl, ⟨by simp, fun _ => ⟨w.heap.size, 0, rfl, hblk.lt, fun j u hu => ?_⟩⟩, hbel⟩
      rw [hblk.cell]
      simp only [fillRow, Nat.sub_self, List.replicate_zero, List.nil_append, List.getElem?_toArray, Nat.zero_add]
      exact hu

/-! ### slices.Grow of nil, slices.Concat, slices.Clone -/
set_option maxRecDepth 100000 in
set_option maxHeartbeats 400000 in
/-- slices.Grow(nil, n): a row of the call's own with nothing in it yet (nil, if n is 0). -/
theorem grow_nil (n : Nat) (w : World) (hn : n ≤ 140737488355328) :
    Calls Try.prog 114 #[.slice none 0 0, .int .i64 (n : Int)] w fun e w' => ∃ v, e = .returned v ∧ w'.ownsRow w.heap.size 5 1 v 0 [] ∧ Below w.heap.size w w' := by
  obtain ⟨i0, hi0, hz0, hz1, hz2⟩ := info_parts u8_row
  by_cases h0 : n = 0
  · subst h0
    go_enter Try.func114, Try.ntmps114
    go_wp2_with fail
    go_ret
    exact ⟨_, rfl, World.ownsRow_nil _ _ _ _, Below.refl _ _⟩
  · have hr := fun ty => Lib.run_append_nil_zeros (P := Try.prog) w 27 3 ty 5 i0 _ .i64 .i64 sl_u8 int_i64 hi0 hz0 n (by omega) (by omega) (by omega) (by rw [hz2]; omega)
    go_enter Try.func114, Try.ntmps114
    go_wp2_with (at_builtin; refine Lib.wpList_append_run _ rfl _ _ _ _ rfl _ _ rfl rfl _ _ (hr _) ?_)
    go_ret
    have hge := grownCap_ge w n 0 5
    have hle := grownCap_le_maxLen w n 0 5 (by simp only [maxLen]; omega)
    refine ⟨_, rfl, (World.ownsRow_made w _ _ (Nat.le_refl _) hle ?_).drew, ((Below.refl _ _).alloc (Nat.le_refl _) _).drew⟩
    simp only [Array.size_append, size_zeroCells]
    simp
    omega

/-- a part that is joined: a slice of bytes -/
structure Part where
  A : Option Addr
  n : Nat
  c : Nat
  l : List UInt8
def Part.v (p : Part) : Value := .slice p.A p.n p.c
/-- all the parts' bytes, one behind the other -/
def cat (ps : List Part) : List UInt8 := ps.flatMap (·.l)
theorem cat_take_succ (ps : List Part) (k : Nat) (h : k < ps.length) : cat (ps.take (k + 1)) = cat (ps.take k) ++ ps[k].l := by
  unfold cat
  rw [List.take_succ_eq_append_getElem h, List.flatMap_append]
  simp only [List.flatMap_cons, List.flatMap_nil, List.append_nil]
theorem cat_take_le (ps : List Part) (k : Nat) : (cat (ps.take k)).length ≤ (cat ps).length := by
  have h : cat ps = cat (ps.take k) ++ cat (ps.drop k) := by unfold cat; rw [← List.flatMap_append, List.take_append_drop]
  rw [h, List.length_append]
  omega

set_option maxRecDepth 100000 in
set_option maxHeartbeats 800000 in
/-- slices.Concat: the parts' bytes, one behind the other, in a row of the call's own. -/
theorem concat_any (S : Option Addr) (n c : Nat) (ps : List Part) (w : World) (hS : Sees w w.heap.size S n (ps.map Part.v))
    (hp : ∀ p ∈ ps, Sees w w.heap.size p.A p.n (cbs p.l)) (hT : (cat ps).length ≤ 140737488355328) (hn : n ≤ 140737488355328) :
    Calls Try.prog 97 #[.slice S n c] w fun e w' => ∃ v, e = .returned v ∧ w'.ownsRow w.heap.size 5 1 v (cat ps).length (cbs (cat ps)) ∧ Below w.heap.size w w' := by
  obtain ⟨i0, hi0, hz0, hz1, hz2⟩ := info_parts u8_row
  have hl : ps.length = n := by have := hS.1; simpa using this
  have HT := Lib.hid hT
  clear hT
  go_enter Try.func97, Try.ntmps97
  go_wp2_with fail
  go_loop [3, 11] (fun v i => ∃ k : Nat, k ≤ n ∧ i = .int .i64 k ∧ v = .int .i64 ((cat (ps.take k)).length : Int)) (fun _ i => n - (intOf i).toNat)
  case atStart => exact ⟨0, Nat.zero_le _, rfl, rfl⟩
  case round =>
    obtain ⟨k, hk, rfl, rfl⟩ := hrel
    by_cases hlt : k < n
    · obtain ⟨b, off, u, rfl, _, hu, hc⟩ := hS.at_ hlt
      have hb1 := cat_take_le ps k
      have hb2 := cat_take_le ps (k + 1)
      rw [cat_take_succ ps k (by omega), List.length_append] at hb2
      have hs := hp ps[k] (List.getElem_mem _)
      have hnext := cat_take_succ ps k (by omega)
      have hTT := HT.out
      rw [List.getElem?_map, List.getElem?_eq_getElem (by omega)] at hu
      rcases hpk : ps[k]'(by omega) with ⟨A', n', c', l'⟩
      rw [hpk] at hu hs hb2 hnext
      simp only [Option.map_some, Option.some.injEq, Part.v] at hu
      subst hu
      have hl' : l'.length = n' := by have := hs.1; simpa using this
      have hb3 : (cat (List.take k ps)).length + n' ≤ 140737488355328 := by simp only [hl'] at hb2; omega
      have HN := Lib.hid hnext
      have HL := Lib.hid hl'
      clear hpk hnext hl' hb2 hb1 hTT
      go_wp2_with fail
      go_round
      case rel => exact ⟨k + 1, by omega, by go_num, by rw [HN.out, List.length_append]; simp only [HL.out]; go_num⟩
      case measure => simp [intOf]; omega
    · have hk' : ps.take k = ps := List.take_of_length_le (by omega)
      rw [hk']
      clear hk'
      have hT1 := HT.out
      go_wp2_with fail
      refine (grow_nil (cat ps).length _ (by omega)).mono ?_
      rintro e w1 ⟨v0, rfl, hown0, hbel0⟩
      clear hT1
      go_wp2_with fail
      go_loopw [6, 27] (fun v i wr => ∃ k : Nat, k ≤ n ∧ i = .int .i64 k ∧ wr.ownsRow w.heap.size 5 1 v (cat (ps.take k)).length (cbs (cat (ps.take k))) ∧ Below w.heap.size w wr) (fun _ i _ => n - (intOf i).toNat)
      case atStart => exact ⟨0, Nat.zero_le _, rfl, hown0, hbel0⟩
      case round =>
        obtain ⟨j, hj, rfl, hown, hbel⟩ := hrel
        by_cases hlt : j < n
        · obtain ⟨b, off, u, rfl, hbw, hu, hc0⟩ := hS.at_ hlt
          have hc : wr.cell? ⟨b, off + j, none⟩ = some u := (hbel.cell hbw).trans hc0
          clear hc0
          have hb2 := cat_take_le ps (j + 1)
          rw [cat_take_succ ps j (by omega), List.length_append] at hb2
          have hs := hp ps[j] (List.getElem_mem _)
          have hnext := cat_take_succ ps j (by omega)
          have hTT := HT.out
          rw [List.getElem?_map, List.getElem?_eq_getElem (by omega)] at hu
          rcases hpk : ps[j]'(by omega) with ⟨A', n', c', l'⟩
          rw [hpk] at hu hs hb2 hnext
          simp only [Option.map_some, Option.some.injEq, Part.v] at hu
          subst hu
          have hl' : l'.length = n' := by have := hs.1; simpa using this
          have hb3 : (cat (List.take j ps)).length + n' ≤ 140737488355328 := by simp only [hl'] at hb2; omega
          have HN := Lib.hid hnext
          have HL := Lib.hid hl'
          have HO := Lib.hid hown
          obtain ⟨A1, c1, rfl, _, _⟩ := own_form hown
          have hc1 : (cat (List.take j ps)).length + n' ≤ maxLen := Nat.le_trans hb3 (by decide)
          have hc2 : ((cat (List.take j ps)).length + n') * 1 ≤ 140737488355328 := by rw [Nat.mul_one]; exact hb3
          have hs' : Sees wr w.heap.size A' n' (cbs l') := Sees.below hs hbel
          clear hpk hnext hl' hb2 hTT hown hs
          go_wp2_with (at_builtin; (refine wpList_append_sees _ rfl (.tmp 31) (.tmp 32) _ rfl w.heap.size 5 i0 _ 1 sl_u8 hi0 hz0 hz1 hz2 rfl (.slice A1 (cat (List.take j ps)).length c1) _ _ rfl HO.out w.heap.size A' n' c' (cbs l') rfl hs' (cbs_one l') hc1 hc2 hbel.size ?_); intro v2 w2 hown2 hg2 hat2)
          have hown3 : w2.ownsRow w.heap.size 5 1 v2 (cat (List.take (j + 1) ps)).length (cbs (cat (List.take (j + 1) ps))) := by
            rw [HN.out, List.length_append, cbs_append]
            simp only [HL.out]
            exact hown2
          have hbel2 : Below w.heap.size w w2 := hbel.grown hg2 hbel.size (fun g hg => (HO.out.lt g hg).1)
          clear hown2 hg2 hat2
          go_roundw
          case rel => exact ⟨j + 1, by omega, by go_num, hown3, hbel2⟩
          case measure => simp [intOf]; omega
        · go_wp2_with fail
          go_ret
          have hj' : ps.take j = ps := List.take_of_length_le (by omega)
          rw [hj'] at hown
          exact ⟨_, rfl, hown, hbel⟩

set_option maxRecDepth 100000 in
/-- what Concat gives, as a caller takes it -/
theorem concat_sees (S : Option Addr) (n c : Nat) (ps : List Part) (w : World) (hS : Sees w w.heap.size S n (ps.map Part.v))
    (hp : ∀ p ∈ ps, Sees w w.heap.size p.A p.n (cbs p.l)) (hT : (cat ps).length ≤ 140737488355328) (hn : n ≤ 140737488355328) :
    Calls Try.prog 97 #[.slice S n c] w fun e w' => ∃ A c', e = .returned (.slice A (cat ps).length c') ∧ Sees w' w'.heap.size A (cat ps).length (cbs (cat ps)) ∧ (cat ps).length ≤ c' ∧ c' ≤ maxLen ∧ Below w.heap.size w w' :=
  (concat_any S n c ps w hS hp hT hn).mono fun e w' ⟨v, he, hown, hb⟩ => by
    obtain ⟨A, c', rfl, h1, h2⟩ := own_form hown
    exact ⟨A, c', he, Sees.of_own hown, h1, h2, hb⟩

set_option maxRecDepth 100000 in
set_option maxHeartbeats 400000 in
/-- slices.Clone -/
theorem clone_any (A : Option Addr) (n c : Nat) (l : List UInt8) (w : World) (hs : Sees w w.heap.size A n (cbs l)) (hn : n ≤ 140737488355328) :
    Calls Try.prog 95 #[.slice A n c] w fun e w' => ∃ v, e = .returned v ∧ w'.ownsRow w.heap.size 5 1 v n (cbs l) ∧ Below w.heap.size w w' := by
  obtain ⟨i0, hi0, hz0, hz1, hz2⟩ := info_parts u8_row
  rcases A with _ | a
  · have hn0 : n = 0 := by
      rcases Nat.eq_zero_or_pos n with h | h
      · exact h
      · obtain ⟨_, _, h1, _⟩ := hs.2 h
        cases h1
    subst hn0
    have hl0 : l = [] := List.eq_nil_of_length_eq_zero (by have := hs.1; simpa using this)
    subst hl0
    have heq := fun W => Lib.run_eql_slice_nil (P := Try.prog) W 27 5 none 0 c 0 0 sl_u8
    go_enter Try.func95, Try.ntmps95
    go_wp2_with fail
    go_ret
    exact ⟨_, rfl, World.ownsRow_nil _ _ _ _, Below.refl _ _⟩
  · have heq := fun W => Lib.run_eql_slice_nil (P := Try.prog) W 27 5 (some a) n c 0 0 sl_u8
    go_enter Try.func95, Try.ntmps95
    have hc1 : 0 + n ≤ maxLen := by rw [Nat.zero_add]; exact Nat.le_trans hn (by decide)
    have hc2 : (0 + n) * 1 ≤ 140737488355328 := by rw [Nat.mul_one, Nat.zero_add]; exact hn
    have hown : (w.alloc (.cells #[] 5)).ownsRow w.heap.size 5 1 (.slice (some ⟨w.heap.size, 0, none⟩) 0 0) 0 [] := World.ownsRow_made w _ 0 (Nat.le_refl _) (by decide) rfl
    go_wp2_with (at_builtin; refine wpList_append_sees _ rfl (.tmp 5) (.tmp 6) _ rfl w.heap.size 5 i0 _ 1 sl_u8 hi0 hz0 hz1 hz2 rfl (.slice (some ⟨w.heap.size, 0, none⟩) 0 0) 0 [] rfl hown w.heap.size (some a) n c (cbs l) rfl (hs.alloc (Nat.le_refl _) _) (cbs_one l) hc1 hc2 (by simp) ?_; intro v2 w2 hown2 hg2 hat2)
    go_ret
    rw [Nat.zero_add, List.nil_append] at hown2
    exact ⟨_, rfl, hown2, ((Below.refl _ _).alloc (Nat.le_refl _) _).grown hg2 (by simp) (fun g hg => by simp [Value.ownBlock] at hg; omega)⟩
end Go.Proofs.Ytlggkeoihpcdiaa

/- The walks of package word's Int, Text, Bool, and of the document's own (kissinggateref01). -/
namespace Go.Proofs.Ytlggkeoihpcdiaa
open Go.RowKit

/-- a slice of just these bytes is handed back; what was there is as it was -/
def RetBytes (w : World) (l : List UInt8) (e : Ending) (w' : World) : Prop :=
  ∃ A c, e = .returned (.slice A l.length c) ∧ Sees w' w'.heap.size A l.length (cbs l) ∧ l.length ≤ c ∧ c ≤ maxLen ∧ Below w.heap.size w w'

/-- an int as the number modulo 2^64 -/
def u64n (m : Int) : Nat := (m % 18446744073709551616).toNat
theorem u64n_lt (m : Int) : u64n m < 18446744073709551616 := by unfold u64n; omega
theorem u64n_wrap (m : Int) : IntKind.u64.wrap m = (u64n m : Int) := by rw [IntKind.wrap_u64]; unfold u64n; omega

set_option maxRecDepth 100000 in
set_option maxHeartbeats 400000 in
/-- word.Int -/
theorem int_any (A : Option Addr) (n c : Nat) (l : List UInt8) (m : Int) (w : World) (hs : Sees w w.heap.size A n (cbs l)) (hn : n ≤ 1073741824) :
    Calls Try.prog 69 #[.slice A n c, .int .i64 m] w (RetBytes w (l ++ be (u64n m) 8)) := by
  have hw := u64n_wrap m
  have hlt := u64n_lt m
  generalize u64n m = N at *
  have HL := Lib.hid hlt
  clear hlt
  go_enter Try.func69, Try.ntmps69
  go_wp2_with fail
  refine (highestFirst_any N 8 _ HL.out (by omega)).mono ?_
  rintro e w1 ⟨g, rfl, hs1, hb1⟩
  clear hw
  go_wp2_with fail
  refine (concat_sees _ 2 2 [⟨A, n, c, l⟩, ⟨some ⟨g, 0, none⟩, 8, 8, be N 8⟩] _ (sees_new w1 _ _) ?_ ?_ (by omega)).mono ?_
  · intro p hp
    simp only [List.mem_cons, List.not_mem_nil, or_false] at hp
    rcases hp with rfl | rfl
    · exact (hs.on hb1).past _
    · exact hs1.past _
  · have hl : l.length = n := by have := hs.1; simpa using this
    simp [cat]
    omega
  rintro e w2 ⟨A', c', rfl, hs2, h1, h2, hb2⟩
  go_wp2_with fail
  go_ret
  have hcat : cat [⟨A, n, c, l⟩, ⟨some ⟨g, 0, none⟩, 8, 8, be N 8⟩] = l ++ be N 8 := by simp [cat]
  rw [hcat] at hs2 h1
  exact ⟨A', c', by rw [hcat]; rfl, hs2, h1, h2, (hb1.alloc hb1.size _).trans (hb2.mono (by simp; have := hb1.size; omega))⟩

/-! ### '[]byte(s)' -/
theorem sees_text (w : World) (s : ByteArray) : Sees (Lib.bytesWorld w 5 s) (Lib.bytesWorld w 5 s).heap.size (some ⟨w.heap.size, 0, none⟩) s.size (cbs s.data.toList) := by
  refine ⟨by rw [cbs_length, text_len], fun _ => ⟨w.heap.size, 0, rfl, by rw [Lib.bytesWorld_size]; omega, fun j u hu => ?_⟩⟩
  rw [cbs_get] at hu
  rcases hj : s.data.toList[j]? with _ | x
  · rw [hj] at hu
    cases hu
  · rw [hj] at hu
    simp only [Option.map_some, Option.some.injEq] at hu
    subst hu
    have hlt : j < s.size := by have := (List.getElem?_eq_some_iff.1 hj).1; rwa [text_len] at this
    rw [Nat.zero_add, Lib.bytesWorld_cell w _ s j hlt, List.getD_eq_getElem?_getD, hj]
    rfl
theorem below_text (w : World) (s : ByteArray) : Below w.heap.size w (Lib.bytesWorld w 5 s) :=
  ⟨rfl, rfl, rfl, by rw [Lib.bytesWorld_size]; omega, fun k hk => Lib.bytesWorld_at_old w _ s k hk⟩

/-- what Text puts behind: the count of two bytes, and so many bytes -/
def textBytes (s : ByteArray) : List UInt8 := be (min s.size 65535) 2 ++ s.data.toList.take 65535

set_option maxRecDepth 100000 in
set_option maxHeartbeats 800000 in
/-- word.Text, of a text that is not too long for its count -/
theorem text_short (A : Option Addr) (n c : Nat) (l : List UInt8) (s : ByteArray) (w : World) (hs : Sees w w.heap.size A n (cbs l)) (hn : n ≤ 1073741824) (hz : s.size ≤ 65535) :
    Calls Try.prog 70 #[.slice A n c, .string s] w (RetBytes w (l ++ textBytes s)) := by
  have hcv := fun W => Lib.run_convert_string_bytes (P := Try.prog) W 9 27 5 s Try.underlying9 sl_u8 Try.underlying5
  have hnot : ¬ (65535 : Int) < (s.size : Int) := by omega
  go_enter Try.func70, Try.ntmps70
  go_wp2_with fail
  refine (highestFirst_any s.size 2 _ (by omega) (by omega)).mono ?_
  rintro e w1 ⟨g, rfl, hs1, hb1⟩
  go_wp2_with fail
  clear hcv
  refine (concat_sees _ 3 3 [⟨A, n, c, l⟩, ⟨some ⟨g, 0, none⟩, 2, 2, be s.size 2⟩, ⟨some ⟨w1.heap.size, 0, none⟩, s.size, grownCap w1 s.size 0 5, s.data.toList⟩] _ (sees_new (Lib.bytesWorld w1 5 s) _ _) ?_ ?_ (by omega)).mono ?_
  · intro p hp
    simp only [List.mem_cons, List.not_mem_nil, or_false] at hp
    rcases hp with rfl | rfl | rfl
    · exact ((hs.on hb1).on (below_text w1 s)).past _
    · exact (hs1.on (below_text w1 s)).past _
    · exact (sees_text w1 s).past _
  · have hl : l.length = n := by have := hs.1; simpa using this
    simp only [cat, List.flatMap_cons, List.flatMap_nil, List.append_nil, List.length_append, be_length, text_len]
    omega
  rintro e w2 ⟨A', c', rfl, hs2, h1, h2, hb2⟩
  go_wp2_with fail
  go_ret
  have hcat : cat [⟨A, n, c, l⟩, ⟨some ⟨g, 0, none⟩, 2, 2, be s.size 2⟩, ⟨some ⟨w1.heap.size, 0, none⟩, s.size, grownCap w1 s.size 0 5, s.data.toList⟩] = l ++ textBytes s := by
    unfold textBytes
    rw [Nat.min_eq_left hz, List.take_of_length_le (by rw [text_len]; exact hz)]
    simp [cat]
  rw [hcat] at hs2 h1
  refine ⟨A', c', by rw [hcat]; rfl, hs2, h1, h2, ((hb1.trans ((below_text w1 s).mono hb1.size)).alloc ?_ _).trans (hb2.mono ?_)⟩
  · rw [Lib.bytesWorld_size]; have := hb1.size; omega
  · simp only [World.size_alloc, Lib.bytesWorld_size]; have := hb1.size; omega

set_option maxRecDepth 100000 in
set_option maxHeartbeats 800000 in
/-- word.Text, of a text that is too long for its count -/
theorem text_long (A : Option Addr) (n c : Nat) (l : List UInt8) (s : ByteArray) (w : World) (hs : Sees w w.heap.size A n (cbs l)) (hn : n ≤ 1073741824) (hz : 65535 < s.size) :
    Calls Try.prog 70 #[.slice A n c, .string s] w (RetBytes w (l ++ textBytes s)) := by
  have hcv := fun W s => Lib.run_convert_string_bytes (P := Try.prog) W 9 27 5 s Try.underlying9 sl_u8 Try.underlying5
  have hnot : (65535 : Int) < (s.size : Int) := by omega
  go_enter Try.func70, Try.ntmps70
  go_wp2_with fail
  have e1 : min 65535 s.size = 65535 := Nat.min_eq_left (by omega)
  have ht2 : (s.extract 0 65535).data.toList = s.data.toList.take 65535 := by rw [ByteArray.data_extract, Array.toList_extract]; simp [List.extract]
  have ht1 : (s.extract 0 65535).size = 65535 := by rw [← text_len, ht2, List.length_take, text_len]; omega
  rw [e1]
  generalize s.extract 0 65535 = t at *
  have H1 := Lib.hid ht1
  have H2 := Lib.hid ht2
  clear ht1 ht2 e1
  refine (highestFirst_any 65535 2 _ (by omega) (by omega)).mono ?_
  rintro e w1 ⟨g, rfl, hs1, hb1⟩
  have hcv' := fun W => hcv W t
  clear hcv
  go_wp2_with fail
  clear hcv'
  have ht1 := H1.out
  have ht2 := H2.out
  refine (concat_sees _ 3 3 [⟨A, n, c, l⟩, ⟨some ⟨g, 0, none⟩, 2, 2, be 65535 2⟩, ⟨some ⟨w1.heap.size, 0, none⟩, t.size, grownCap w1 t.size 0 5, t.data.toList⟩] _ (sees_new (Lib.bytesWorld w1 5 t) _ _) ?_ ?_ (by omega)).mono ?_
  · intro p hp
    simp only [List.mem_cons, List.not_mem_nil, or_false] at hp
    rcases hp with rfl | rfl | rfl
    · exact ((hs.on hb1).on (below_text w1 t)).past _
    · exact (hs1.on (below_text w1 t)).past _
    · exact (sees_text w1 t).past _
  · have hl : l.length = n := by have := hs.1; simpa using this
    simp only [cat, List.flatMap_cons, List.flatMap_nil, List.append_nil, List.length_append, be_length, text_len]
    omega
  rintro e w2 ⟨A', c', rfl, hs2, h1, h2, hb2⟩
  clear ht1 ht2
  go_wp2_with fail
  go_ret
  have hcat : cat [⟨A, n, c, l⟩, ⟨some ⟨g, 0, none⟩, 2, 2, be 65535 2⟩, ⟨some ⟨w1.heap.size, 0, none⟩, t.size, grownCap w1 t.size 0 5, t.data.toList⟩] = l ++ textBytes s := by
    unfold textBytes
    rw [Nat.min_eq_right (by omega), H2.out]
    simp [cat]
  rw [hcat] at hs2 h1
  refine ⟨A', c', by rw [hcat]; rfl, hs2, h1, h2, ((hb1.trans ((below_text w1 t).mono hb1.size)).alloc ?_ _).trans (hb2.mono ?_)⟩
  · rw [Lib.bytesWorld_size]; have := hb1.size; omega
  · simp only [World.size_alloc, Lib.bytesWorld_size]; have := hb1.size; omega

set_option maxRecDepth 100000 in
/-- word.Text -/
theorem text_any (A : Option Addr) (n c : Nat) (l : List UInt8) (s : ByteArray) (w : World) (hs : Sees w w.heap.size A n (cbs l)) (hn : n ≤ 1073741824) :
    Calls Try.prog 70 #[.slice A n c, .string s] w (RetBytes w (l ++ textBytes s)) := by
  rcases Nat.lt_or_ge 65535 s.size with h | h
  · exact text_long A n c l s w hs hn h
  · exact text_short A n c l s w hs hn h

/-- what Bool puts behind -/
def boolBytes (b : Bool) : List UInt8 := [if b then 1 else 0]

/-! ### the document's own -/
/-- 'string(b)' of a slice that reads as bytes -/
theorem conv_sees {P : Program} (w : World) (src dst e : TypeId) (hs : P.underlying src = some (.slice e)) (he : P.underlying e = some (.int .u8)) (hd : P.underlying dst = some .string)
    (B : Nat) (A : Option Addr) (n c : Nat) (l : List UInt8) (h : Sees w B A n (cbs l)) : (convert src dst (.slice A n c)).run P w = .ok (.string ⟨l.toArray⟩) w := by
  have hl : l.length = n := by have := h.1; simpa using this
  rcases Nat.eq_zero_or_pos n with h0 | h0
  · subst h0
    have hl0 : l = [] := List.eq_nil_of_length_eq_zero hl
    subst hl0
    rcases A with _ | a
    · rw [run_convert_bytes_string w src dst e none 0 c hs he hd]
      simp [Conv.bytesToString, Sem.run_pure]
      rfl
    · exact run_convert_bytes_back w src dst e a c [] hs he hd (fun j hj => absurd hj (by simp))
  · obtain ⟨b, off, rfl, _, hc⟩ := h.2 h0
    subst hl
    refine run_convert_bytes_back w src dst e ⟨b, off, none⟩ c l hs he hd (fun j hj => ?_)
    have h1 := hc j (cb l[j]) (by rw [cbs_get, List.getElem?_eq_getElem hj]; rfl)
    unfold Addr.add
    split
    · rename_i h2
      subst h2
      exact h1
    · exact h1

/-- 'string([]byte{x})' -/
theorem conv_one {P : Program} (src dst e : TypeId) (hs : P.underlying src = some (.slice e)) (he : P.underlying e = some (.int .u8)) (hd : P.underlying dst = some .string) (w : World) (x : Int) :
    (convert src dst (.slice (some ⟨w.heap.size, 0, none⟩) 1 1)).run P (w.alloc (.cells #[.int .u8 x] e)) = .ok (.string ⟨#[UInt8.ofNat x.toNat]⟩) (w.alloc (.cells #[.int .u8 x] e)) := by
  rw [run_convert_bytes_string _ src dst e _ 1 1 hs he hd]
  have hl := run_loadCells_list (P := P) (w.alloc (.cells #[.int .u8 x] e)) ⟨w.heap.size, 0, none⟩ ([x].map (Value.int .u8)) (fun j v hj => by
    have h := (sees_new w #[.int .u8 x] e).2 (by simp)
    obtain ⟨b, off, h1, _, h2⟩ := h
    simp only [Option.some.injEq, Addr.mk.injEq] at h1
    obtain ⟨rfl, rfl, _⟩ := h1
    have := h2 j v (by simpa using hj)
    unfold Addr.add
    split
    · rename_i h3
      subst h3
      exact this
    · exact this)
  exact run_bytesToString _ _ 1 1 [x] hl
/-- 'string([]byte{x, y})' -/
theorem conv_two {P : Program} (src dst e : TypeId) (hs : P.underlying src = some (.slice e)) (he : P.underlying e = some (.int .u8)) (hd : P.underlying dst = some .string) (w : World) (x y : Int) :
    (convert src dst (.slice (some ⟨w.heap.size, 0, none⟩) 2 2)).run P (w.alloc (.cells #[.int .u8 x, .int .u8 y] e)) = .ok (.string ⟨#[UInt8.ofNat x.toNat, UInt8.ofNat y.toNat]⟩) (w.alloc (.cells #[.int .u8 x, .int .u8 y] e)) := by
  rw [run_convert_bytes_string _ src dst e _ 2 2 hs he hd]
  have hl := run_loadCells_list (P := P) (w.alloc (.cells #[.int .u8 x, .int .u8 y] e)) ⟨w.heap.size, 0, none⟩ ([x, y].map (Value.int .u8)) (fun j v hj => by
    have h := (sees_new w #[.int .u8 x, .int .u8 y] e).2 (by simp)
    obtain ⟨b, off, h1, _, h2⟩ := h
    simp only [Option.some.injEq, Addr.mk.injEq] at h1
    obtain ⟨rfl, rfl, _⟩ := h1
    have := h2 j v (by simpa using hj)
    unfold Addr.add
    split
    · rename_i h3
      subst h3
      exact this
    · exact this)
  exact run_bytesToString _ _ 2 2 [x, y] hl

theorem text_app (l m : List UInt8) : ((⟨l.toArray⟩ : ByteArray) ++ (⟨m.toArray⟩ : ByteArray)) = ⟨(l ++ m).toArray⟩ := by
  apply ByteArray.ext
  simp [ByteArray.data_append]
theorem step_byte (N k : Nat) : UInt8.ofNat (((N : Int) / 256 ^ k).tmod 256 % 256).toNat = UInt8.ofNat (N / 256 ^ k) := by
  have e : ((N : Int) / 256 ^ k) = ((N / 256 ^ k : Nat) : Int) := by simp
  rw [e]
  generalize N / 256 ^ k = M
  rw [Int.tmod_eq_emod_of_nonneg (by omega), show (((M : Int) % 256 % 256).toNat) = M % 256 from by omega]
  apply UInt8.toNat_inj.1
  simp
theorem step_rest (N k : Nat) (hN : N < 18446744073709551616) : IntKind.u64.wrap (((N : Int) / 256 ^ k).tdiv 256) = ((N / 256 ^ (k + 1) : Nat) : Int) := by
  have e : ((N : Int) / 256 ^ k) = ((N / 256 ^ k : Nat) : Int) := by simp
  have h1 : N / 256 ^ k ≤ N := Nat.div_le_self _ _
  rw [e, Nat.pow_succ, ← Nat.div_div_eq_div_mul]
  generalize N / 256 ^ k = M at *
  have h2 : ((M : Int)).tdiv 256 = ((M / 256 : Nat) : Int) := by rw [Int.tdiv_eq_ediv_of_nonneg (by omega)]; omega
  rw [h2]
  exact IntWalk.u64_in _ ⟨by omega, by omega⟩

set_option maxRecDepth 100000 in
set_option maxHeartbeats 400000 in
/-- kissinggateref01.Int -/
theorem refInt_any (m : Int) (w : World) :
    Calls Try.prog 47 #[.int .i64 m] w fun e w' => e = .returned (.string ⟨(be (u64n m) 8).toArray⟩) ∧ Below w.heap.size w w' := by
  have hw := u64n_wrap m
  have hlt := u64n_lt m
  generalize u64n m = N at *
  have HL := Lib.hid hlt
  clear hlt
  have hcv := conv_one (P := Try.prog) 27 9 5 sl_u8 Try.underlying5 Try.underlying9
  go_enter Try.func47, Try.ntmps47
  go_wp2_with fail
  clear hw
  go_loopw [3, 4, 5] (fun o u i wr => ∃ k : Nat, k ≤ 8 ∧ i = .int .i64 k ∧ u = .int .u64 ((N / 256 ^ k : Nat) : Int) ∧ o = .string ⟨(be N k).toArray⟩ ∧ Below w.heap.size w wr) (fun _ _ i _ => 8 - (intOf i).toNat)
  case atStart => exact ⟨0, Nat.zero_le _, rfl, by simp, rfl, Below.refl _ _⟩
  case round =>
    obtain ⟨k, hk, rfl, rfl, rfl, hbel⟩ := hrel
    by_cases hlt : k < 8
    · go_wp2_with fail
      go_roundw
      case rel => exact ⟨k + 1, by omega, by go_num, by rw [step_rest N k HL.out], by rw [step_byte]; exact congrArg Value.string (text_app [UInt8.ofNat (N / 256 ^ k)] (be N k)), hbel.alloc hbel.size _⟩
      case measure => simp [intOf]; omega
    · go_wp2_with fail
      go_ret
      have hk' : k = 8 := by omega
      subst hk'
      exact ⟨rfl, hbel⟩

theorem be_two (n : Nat) : be n 2 = [UInt8.ofNat (n / 256), UInt8.ofNat n] := by simp [be]
theorem ret_text {a b : ByteArray} (h : a = b) : Ending.returned (.string a) = Ending.returned (.string b) := by rw [h]
theorem text_eta (s : ByteArray) : s = ⟨s.data.toList.toArray⟩ := by apply ByteArray.ext; simp
theorem ofNat_mod (n : Nat) : UInt8.ofNat (n % 256) = UInt8.ofNat n := by
  apply UInt8.toNat_inj.1
  simp
theorem count_text (n : Nat) (s : ByteArray) : (⟨#[UInt8.ofNat (n / 256), UInt8.ofNat (n % 256)]⟩ : ByteArray) ++ s = ⟨(be n 2 ++ s.data.toList).toArray⟩ := by
  rw [be_two, ofNat_mod]
  exact (congrArg (fun x => (⟨#[UInt8.ofNat (n / 256), UInt8.ofNat n]⟩ : ByteArray) ++ x) (text_eta s)).trans (text_app [UInt8.ofNat (n / 256), UInt8.ofNat n] s.data.toList)
theorem cut_text (s : ByteArray) : (s.extract 0 65535).data.toList = s.data.toList.take 65535 := by rw [ByteArray.data_extract, Array.toList_extract]; simp [List.extract]

set_option maxRecDepth 100000 in
set_option maxHeartbeats 400000 in
/-- kissinggateref01.Text, of a text that is not too long -/
theorem refText_short (s : ByteArray) (w : World) (hz : s.size ≤ 65535) :
    Calls Try.prog 48 #[.string s] w fun e w' => e = .returned (.string ⟨(textBytes s).toArray⟩) ∧ Below w.heap.size w w' := by
  have hcv := conv_two (P := Try.prog) 27 9 5 sl_u8 Try.underlying5 Try.underlying9
  have hnot : ¬ (65535 : Int) < (s.size : Int) := by omega
  go_enter Try.func48, Try.ntmps48
  go_wp2_with fail
  go_ret
  refine ⟨ret_text ?_, (Below.refl _ _).alloc (Nat.le_refl _) _⟩
  rw [count_text]
  unfold textBytes
  rw [Nat.min_eq_left hz, List.take_of_length_le (by rw [text_len]; exact hz)]
set_option maxRecDepth 100000 in
set_option maxHeartbeats 400000 in
/-- kissinggateref01.Text, of a text that is too long -/
theorem refText_long (s : ByteArray) (w : World) (hz : 65535 < s.size) :
    Calls Try.prog 48 #[.string s] w fun e w' => e = .returned (.string ⟨(textBytes s).toArray⟩) ∧ Below w.heap.size w w' := by
  have hcv := conv_two (P := Try.prog) 27 9 5 sl_u8 Try.underlying5 Try.underlying9
  have hnot : (65535 : Int) < (s.size : Int) := by omega
  go_enter Try.func48, Try.ntmps48
  go_wp2_with fail
  go_ret
  refine ⟨ret_text ?_, (Below.refl _ _).alloc (Nat.le_refl _) _⟩
  rw [count_text, cut_text]
  unfold textBytes
  rw [Nat.min_comm]

set_option maxRecDepth 100000 in
/-- kissinggateref01.Text -/
theorem refText_any (s : ByteArray) (w : World) :
    Calls Try.prog 48 #[.string s] w fun e w' => e = .returned (.string ⟨(textBytes s).toArray⟩) ∧ Below w.heap.size w w' := by
  rcases Nat.lt_or_ge 65535 s.size with h | h
  · exact refText_long s w h
  · exact refText_short s w h

end Go.Proofs.Ytlggkeoihpcdiaa

/- Sums of bytes as numbers: plain facts. A halving is linear and loses nothing. No program is named. -/
namespace Go.Proofs.Ytlggkeoihpcdiaa

/-- the polynomial -/
def poly : Nat := 2197175160
/-- one halving -/
def hv (n : Nat) : Nat := n / 2 ^^^ n % 2 * poly
/-- so many halvings -/
def hvk : Nat → Nat → Nat
  | 0, n => n
  | k + 1, n => hv (hvk k n)

theorem div_two_xor (a b : Nat) : (a ^^^ b) / 2 = a / 2 ^^^ b / 2 := by
  have := Nat.shiftRight_xor_distrib (a := a) (b := b) (i := 1)
  simpa [Nat.shiftRight_eq_div_pow] using this
theorem hv_xor (a b : Nat) : hv (a ^^^ b) = hv a ^^^ hv b := by
  unfold hv
  rw [div_two_xor]
  have h : (a ^^^ b) % 2 * poly = (a % 2 * poly) ^^^ (b % 2 * poly) := by
    have hx : (a ^^^ b) % 2 = (a % 2 ^^^ b % 2) := by
      have := Nat.xor_mod_two_pow (a := a) (b := b) (n := 1)
      simpa using this
    rw [hx]
    rcases Nat.mod_two_eq_zero_or_one a with h1 | h1 <;> rcases Nat.mod_two_eq_zero_or_one b with h2 | h2 <;> simp [h1, h2]
  rw [h]
  simp only [Nat.xor_assoc]
  congr 1
  rw [← Nat.xor_assoc, Nat.xor_comm (b / 2), Nat.xor_assoc]
theorem hvk_xor (k a b : Nat) : hvk k (a ^^^ b) = hvk k a ^^^ hvk k b := by
  induction k with
  | zero => rfl
  | succ k ih => simp only [hvk, ih, hv_xor]
theorem hv_lt {n : Nat} (h : n < 4294967296) : hv n < 4294967296 := by
  unfold hv
  have h1 : n / 2 < 2 ^ 32 := by omega
  have h2 : n % 2 * poly < 2 ^ 32 := by
    unfold poly
    have := Nat.mod_lt n (show 0 < 2 by omega)
    omega
  exact Nat.xor_lt_two_pow h1 h2
theorem hvk_lt {k n : Nat} (h : n < 4294967296) : hvk k n < 4294967296 := by
  induction k with
  | zero => exact h
  | succ k ih => exact hv_lt ih
theorem hvk_even (k : Nat) : ∀ m, hvk k (m * 2 ^ k) = m := by
  induction k with
  | zero => intro m; simp [hvk]
  | succ k ih =>
    intro m
    have e : m * 2 ^ (k + 1) = (m * 2) * 2 ^ k := by rw [Nat.pow_succ, Nat.mul_comm (2 ^ k) 2, Nat.mul_assoc]
    simp only [hvk]
    rw [e, ih]
    simp [hv]
theorem xor_left_cancel {a b c : Nat} (h : a ^^^ b = a ^^^ c) : b = c := by
  have := congrArg (a ^^^ ·) h
  simpa [← Nat.xor_assoc] using this
theorem xor_right_cancel {a b c : Nat} (h : b ^^^ a = c ^^^ a) : b = c := by
  rw [Nat.xor_comm b, Nat.xor_comm c] at h
  exact xor_left_cancel h
theorem hv_top {n : Nat} (h : n < 4294967296) : (hv n).testBit 31 = (n % 2 == 1) := by
  unfold hv
  have h1 : (n / 2).testBit 31 = false := Nat.testBit_lt_two_pow (show n / 2 < 2 ^ 31 by omega)
  rw [Nat.testBit_xor, h1]
  rcases Nat.mod_two_eq_zero_or_one n with h2 | h2
  · simp [h2]
  · rw [h2]
    decide
theorem hv_inj {a b : Nat} (ha : a < 4294967296) (hb : b < 4294967296) (h : hv a = hv b) : a = b := by
  have h1 := hv_top ha
  have h2 := hv_top hb
  rw [h, h2] at h1
  have h3 : a % 2 = b % 2 := by
    rcases Nat.mod_two_eq_zero_or_one a with x | x <;> rcases Nat.mod_two_eq_zero_or_one b with y | y <;> simp [x, y] at h1 ⊢
  unfold hv at h
  rw [h3] at h
  have h4 := xor_right_cancel h
  omega
theorem hvk_inj {k a b : Nat} (ha : a < 4294967296) (hb : b < 4294967296) (h : hvk k a = hvk k b) : a = b := by
  induction k with
  | zero => exact h
  | succ k ih => exact ih (hv_inj (hvk_lt ha) (hvk_lt hb) h)

/-- a byte is summed -/
def step (r : Nat) (x : UInt8) : Nat := hvk 8 (r ^^^ x.toNat)
def reg (r : Nat) (l : List UInt8) : Nat := l.foldl step r
/-- the sum of bytes -/
def crcOf (l : List UInt8) : Nat := 4294967295 - reg 4294967295 l

theorem byte_lt (x : UInt8) : x.toNat < 4294967296 := Nat.lt_trans (UInt8.toNat_lt x) (by decide)
theorem xor_byte_lt {r : Nat} (x : UInt8) (h : r < 4294967296) : r ^^^ x.toNat < 4294967296 := Nat.xor_lt_two_pow (n := 32) h (byte_lt x)
theorem step_lt {r : Nat} (x : UInt8) (h : r < 4294967296) : step r x < 4294967296 := hvk_lt (xor_byte_lt x h)
theorem reg_lt (l : List UInt8) : ∀ {r : Nat}, r < 4294967296 → reg r l < 4294967296 := by
  induction l with
  | nil => intro r h; exact h
  | cons x l ih => intro r h; exact ih (step_lt x h)
theorem reg_append (r : Nat) (l m : List UInt8) : reg r (l ++ m) = reg (reg r l) m := by simp [reg, List.foldl_append]
theorem reg_take_succ (r : Nat) (l : List UInt8) (k : Nat) (h : k < l.length) : reg r (l.take (k + 1)) = step (reg r (l.take k)) l[k] := by
  rw [List.take_succ_eq_append_getElem h, reg_append]
  rfl
theorem crc_lt (l : List UInt8) : crcOf l < 4294967296 := by unfold crcOf; omega
theorem reg_inj (l : List UInt8) : ∀ {r s : Nat}, r < 4294967296 → s < 4294967296 → reg r l = reg s l → r = s := by
  induction l with
  | nil => intro r s _ _ h; exact h
  | cons x l ih =>
    intro r s hr hs h
    have h1 := ih (step_lt x hr) (step_lt x hs) h
    exact xor_right_cancel (hvk_inj (xor_byte_lt x hr) (xor_byte_lt x hs) h1)
/-- bytes of which one is another one have another sum -/
theorem crc_turned (l m : List UInt8) (x y : UInt8) (h : x ≠ y) : crcOf (l ++ x :: m) ≠ crcOf (l ++ y :: m) := by
  intro e
  have h0 : (4294967295 : Nat) < 4294967296 := by omega
  have b1 := reg_lt (l ++ x :: m) h0
  have b2 := reg_lt (l ++ y :: m) h0
  have h1 : reg 4294967295 (l ++ x :: m) = reg 4294967295 (l ++ y :: m) := by unfold crcOf at e; omega
  rw [reg_append, reg_append] at h1
  have hr := reg_lt l h0
  have h2 := reg_inj m (step_lt x hr) (step_lt y hr) h1
  have h3 := xor_left_cancel (hvk_inj (xor_byte_lt x hr) (xor_byte_lt y hr) h2)
  exact h (UInt8.toNat_inj.1 h3)
/-- a byte is summed by a table -/
theorem step_table (r : Nat) (x : UInt8) : step r x = hvk 8 (r % 256 ^^^ x.toNat) ^^^ r / 256 := by
  unfold step
  have h1 : r = (r / 256 * 2 ^ 8) ^^^ (r % 256) := by
    have h2 : r % 256 < 2 ^ 8 := Nat.mod_lt _ (by decide)
    have h3 := Nat.two_pow_add_eq_or_of_lt h2 (r / 256)
    have h4 : (r / 256 * 2 ^ 8) ^^^ (r % 256) = (r / 256 * 2 ^ 8) ||| (r % 256) := by
      apply Nat.eq_of_testBit_eq
      intro i
      rw [Nat.testBit_xor, Nat.testBit_or]
      rcases Nat.lt_or_ge i 8 with hi | hi
      · have : (r / 256 * 2 ^ 8).testBit i = false := by rw [Nat.mul_comm, Nat.testBit_two_pow_mul]; simp; omega
        simp [this]
      · have : (r % 256).testBit i = false := Nat.testBit_lt_two_pow (Nat.lt_of_lt_of_le h2 (Nat.pow_le_pow_right (by omega) hi))
        simp [this]
    rw [h4, Nat.mul_comm, ← h3]
    have := Nat.div_add_mod r 256
    omega
  have h5 : r ^^^ x.toNat = (r / 256 * 2 ^ 8) ^^^ (r % 256 ^^^ x.toNat) := by
    rw [← Nat.xor_assoc, ← h1]
  rw [h5, hvk_xor, hvk_even, Nat.xor_comm]
/-- goes on with a sum -/
theorem crc_append (l m : List UInt8) : 4294967295 - reg (4294967295 - crcOf l) m = crcOf (l ++ m) := by
  have h := reg_lt l (show (4294967295 : Nat) < 4294967296 by omega)
  have e : 4294967295 - crcOf l = reg 4294967295 l := by unfold crcOf; omega
  rw [e]
  unfold crcOf
  rw [reg_append]

/-- a sum's bytes, the lowest first -/
def le4 (n : Nat) : List UInt8 := [UInt8.ofNat n, UInt8.ofNat (n / 256), UInt8.ofNat (n / 65536), UInt8.ofNat (n / 16777216)]
theorem le4_inj {a b : Nat} (ha : a < 4294967296) (hb : b < 4294967296) (h : le4 a = le4 b) : a = b := by
  simp only [le4, List.cons.injEq, ← UInt8.toNat_inj, UInt8.toNat_ofNat', and_true] at h
  omega
end Go.Proofs.Ytlggkeoihpcdiaa

/- The walks of package crc's functions without a table, and of the document's own (kissinggateref02). -/
namespace Go.Proofs.Ytlggkeoihpcdiaa
open Go.RowKit

theorem round_cell (n : Nat) (h : n < 4294967296) :
    bits BinOp.xor IntKind.u32 ((n : Int) / 2) (bits BinOp.and IntKind.u32 (n : Int) 1 * 2197175160 % 4294967296) = ((hv n : Nat) : Int) := by
  have h1 : bits BinOp.and IntKind.u32 (n : Int) 1 = ((n % 2 : Nat) : Int) := by
    have := u32_and_nat n 1 h (by omega)
    rw [nat_mask1] at this
    exact this
  have h3 : n % 2 * 2197175160 < 4294967296 := by
    have := Nat.mod_lt n (show 0 < 2 by omega)
    omega
  have h2 : (((n % 2 : Nat) : Int) * 2197175160 % 4294967296) = ((n % 2 * 2197175160 : Nat) : Int) := by omega
  have h4 : n / 2 < 4294967296 := by omega
  rw [h1, h2, show ((n : Int) / 2) = ((n / 2 : Nat) : Int) from by omega, u32_xor_nat _ _ h4 h3]
  rfl

theorem ret_u32 {a b : Int} (h : a = b) : Ending.returned (.int .u32 a) = .returned (.int .u32 b) := by rw [h]
theorem ones_xor (r : Nat) (h : r < 4294967296) : 4294967295 ^^^ r = 4294967295 - r := by
  apply Nat.eq_of_testBit_eq
  intro i
  have h1 := Nat.testBit_two_pow_sub_succ (show r < 2 ^ 32 from h) i
  have e : 2 ^ 32 - (r + 1) = 4294967295 - r := by omega
  rw [e] at h1
  rw [h1, Nat.testBit_xor]
  have h2 : Nat.testBit 4294967295 i = decide (i < 32) := Nat.testBit_two_pow_sub_one (n := 32) (i := i)
  rw [h2]
  rcases Nat.lt_or_ge i 32 with hi | hi
  · simp [hi]
  · have : r.testBit i = false := Nat.testBit_lt_two_pow (Nat.lt_of_lt_of_le h (Nat.pow_le_pow_right (n := 2) (by omega) hi))
    simp [this]
theorem flip_cell (r : Nat) (h : r < 4294967296) : bits BinOp.xor IntKind.u32 IntKind.u32.max (r : Int) = ((4294967295 - r : Nat) : Int) := by
  have := u32_xor_nat 4294967295 r (by omega) h
  rw [ones_xor r h] at this
  exact this
theorem xor_cell (r : Nat) (x : UInt8) (h : r < 4294967296) : bits BinOp.xor IntKind.u32 (r : Int) ((x.toNat : Int) % 4294967296) = ((r ^^^ x.toNat : Nat) : Int) := by
  have hx := byte_lt x
  rw [show ((x.toNat : Int) % 4294967296) = ((x.toNat : Nat) : Int) from by omega]
  exact u32_xor_nat _ _ h hx

set_option maxRecDepth 100000 in
set_option maxHeartbeats 400000 in
/-- crc.halve8 -/
theorem halve8_any (n : Nat) (w : World) (hn : n < 4294967296) :
    Calls Try.prog 127 #[.int .u32 (n : Int)] w fun e w' => e = .returned (.int .u32 (hvk 8 n : Int)) ∧ w' = w := by
  have HN := Lib.hid hn
  clear hn
  go_enter Try.func127, Try.ntmps127
  go_wp2
  go_loop [0, 4] (fun u i => ∃ k : Nat, k ≤ 8 ∧ i = .int .i64 k ∧ u = .int .u32 (hvk k n : Int)) (fun _ i => 8 - (intOf i).toNat)
  case atStart => exact ⟨0, Nat.zero_le _, rfl, rfl⟩
  case round =>
    obtain ⟨k, hk, rfl, rfl⟩ := hrel
    have hlt2 := hvk_lt (k := k) HN.out
    by_cases hlt : k < 8
    · go_wp2_with fail
      go_round
      case rel => exact ⟨k + 1, by omega, by go_num, by rw [round_cell _ hlt2]; rfl⟩
      case measure => simp [intOf]; omega
    · have hk8 : k = 8 := by omega
      subst hk8
      go_wp2_with fail
      go_ret
      exact ⟨rfl, rfl⟩

set_option maxRecDepth 100000 in
set_option maxHeartbeats 400000 in
/-- crc.Of -/
theorem of_any (A : Option Addr) (n c : Nat) (l : List UInt8) (B : Nat) (w : World) (hs : Sees w B A n (cbs l)) (hn : n ≤ 9223372036854775807) :
    Calls Try.prog 117 #[.slice A n c] w fun e w' => e = .returned (.int .u32 (crcOf l : Int)) ∧ w' = w := by
  have hl : l.length = n := by have := hs.1; simpa using this
  have HL := Lib.hid hl
  clear hl
  go_enter Try.func117, Try.ntmps117
  go_wp2_with fail
  go_loop [3, 8] (fun u i => ∃ k : Nat, k ≤ n ∧ i = .int .i64 k ∧ u = .int .u32 (reg 4294967295 (l.take k) : Int)) (fun _ i => n - (intOf i).toNat)
  case atStart => exact ⟨0, Nat.zero_le _, rfl, rfl⟩
  case round =>
    obtain ⟨k, hk, rfl, rfl⟩ := hrel
    by_cases hlt : k < n
    · have hkl : k < l.length := by rw [HL.out]; exact hlt
      obtain ⟨b, off, u, rfl, _, hu, hc⟩ := hs.at_ hlt
      rw [cbs_get, List.getElem?_eq_getElem hkl] at hu
      have hu' : cb l[k] = u := by simpa using hu
      subst hu'
      unfold cb at hc
      have hr := reg_lt (l.take k) (show (4294967295 : Nat) < 4294967296 by omega)
      have HR := Lib.hid hr
      have HN := Lib.hid (reg_take_succ 4294967295 l k hkl)
      clear hr
      go_wp2_with fail
      rw [xor_cell _ _ HR.out]
      refine (halve8_any _ _ (xor_byte_lt _ HR.out)).mono ?_
      rintro e w1 ⟨rfl, rfl⟩
      go_wp2_with fail
      go_round
      case rel => exact ⟨k + 1, by omega, by go_num, by rw [HN.out]; rfl⟩
      case measure => simp [intOf]; omega
    · have hk' : l.take k = l := List.take_of_length_le (by rw [HL.out]; omega)
      rw [hk']
      clear hk'
      have hsg : IntKind.u32.signed = false := rfl
      go_wp2_with fail
      go_ret
      exact ⟨ret_u32 (flip_cell _ (reg_lt l (by omega))), rfl⟩

theorem odd_cell (m : Nat) (h : m < 4294967296) (ho : m % 2 = 1) : bits BinOp.xor IntKind.u32 ((m : Int) / 2) 2197175160 = ((hv m : Nat) : Int) := by
  have h4 : m / 2 < 4294967296 := by omega
  rw [show ((m : Int) / 2) = ((m / 2 : Nat) : Int) from by omega]
  have := u32_xor_nat (m / 2) 2197175160 h4 (by omega)
  unfold hv poly
  rw [ho]
  exact this
theorem even_cell (m : Nat) (ho : ¬ m % 2 = 1) : ((m : Int) / 2) = ((hv m : Nat) : Int) := by
  have : m % 2 = 0 := by omega
  unfold hv
  rw [this]
  simp

/-! ### a sum's bytes -/
theorem le4_cells (n : Nat) (h : n < 4294967296) : (cbs (le4 n)).toArray = #[Value.int .u8 ((n : Int) % 256), Value.int .u8 ((n : Int) / 256 % 256), Value.int .u8 ((n : Int) / 65536 % 256), Value.int .u8 ((n : Int) / 16777216)] := by
  simp only [le4, cbs, List.map_cons, List.map_nil, cb_ofNat]
  have h1 : ((n / 16777216 : Nat) : Int) % 256 = (n : Int) / 16777216 := by omega
  rw [h1]
  simp

theorem le4_cells' (n : Nat) : (cbs (le4 n)).toArray = #[Value.int .u8 ((n : Int) % 256), Value.int .u8 ((n : Int) / 256 % 256), Value.int .u8 ((n : Int) / 65536 % 256), Value.int .u8 ((n : Int) / 16777216 % 256)] := by
  simp only [le4, cbs, List.map_cons, List.map_nil, cb_ofNat]
  simp

set_option maxRecDepth 100000 in
set_option maxHeartbeats 800000 in
/-- crc.Bytes -/
theorem bytes_any (n : Nat) (w : World) (hn : n < 4294967296) :
    Calls Try.prog 116 #[.int .u32 (n : Int)] w fun e w' => e = .returned (.slice (some ⟨w.heap.size, 0, none⟩) 4 4) ∧ w' = w.alloc (.cells (cbs (le4 n)).toArray 5) := by
  have hmk : ∀ W, (Instr.makeSlice 27 (.int .i64 4) (.int .i64 4)).run Try.prog W = .ok (.slice (some ⟨W.heap.size, 0, none⟩) 4 4) (W.alloc (.cells #[.int .u8 0, .int .u8 0, .int .u8 0, .int .u8 0] 5)) := fun W => by
    have h := run_make_row' (P := Try.prog) 27 5 (.int .u8 0) 1 sl_u8 u8_row rfl .i64 .i64 4 (by omega) (by omega) W
    have hm : madeCells #[Value.int .u8 0] 4 = #[.int .u8 0, .int .u8 0, .int .u8 0, .int .u8 0] := by apply Array.toList_inj.1; rw [toList_madeCells_one]; rfl
    rw [hm] at h
    exact h
  rw [le4_cells' n]
  have HN := Lib.hid hn
  clear hn
  go_enter Try.func116, Try.ntmps116
  go_wp2_with fail
  clear hmk
  go_rounds 5
  go_ret
  exact ⟨rfl, rfl⟩

/-! ### bytes.Equal, crc.Check -/
theorem conv_sees' (w : World) (B : Nat) (A : Option Addr) (n c : Nat) (l : List UInt8) (h : Sees w B A n (cbs l)) : (convert 27 9 (.slice A n c)).run Try.prog w = .ok (.string ⟨l.toArray⟩) w :=
  conv_sees (P := Try.prog) w _ _ _ sl_u8 Try.underlying5 Try.underlying9 B A n c l h

set_option maxRecDepth 100000 in
set_option maxHeartbeats 400000 in
/-- bytes.Equal -/
theorem equal_any (A A' : Option Addr) (n c n' c' : Nat) (l l' : List UInt8) (B B' : Nat) (w : World) (hs : Sees w B A n (cbs l)) (hs' : Sees w B' A' n' (cbs l')) :
    Calls Try.prog 142 #[.slice A n c, .slice A' n' c'] w fun e w' => e = .returned (.bool (l == l')) ∧ w' = w := by
  have h1 := conv_sees' w B A n c l hs
  have h2 := conv_sees' w B' A' n' c' l' hs'
  go_enter Try.func142, Try.ntmps142
  go_wp2_with fail
  go_ret
  exact ⟨rfl, rfl⟩

/-- a sum's bytes, seen in memory -/
theorem le4_sees (w : World) (n : Nat) : Sees (w.alloc (.cells (cbs (le4 n)).toArray 5)) (w.alloc (.cells (cbs (le4 n)).toArray 5)).heap.size (some ⟨w.heap.size, 0, none⟩) 4 (cbs (le4 n)) :=
  sees_new w (cbs (le4 n)).toArray 5

set_option maxRecDepth 100000 in
set_option maxHeartbeats 400000 in
/-- crc.Check -/
theorem check_any (A A' : Option Addr) (n c n' c' : Nat) (l l' : List UInt8) (B B' : Nat) (w : World) (hs : Sees w B A n (cbs l)) (hB : B ≤ w.heap.size) (hs' : Sees w B' A' n' (cbs l')) (hB' : B' ≤ w.heap.size) (hn : n ≤ 9223372036854775807) :
    Calls Try.prog 129 #[.slice A n c, .slice A' n' c'] w fun e w' => e = .returned (.bool (le4 (crcOf l) == l')) ∧ Below w.heap.size w w' := by
  have HO := Lib.hid (of_any A n c l B w hs hn)
  have HB := Lib.hid (bytes_any (crcOf l) w (crc_lt l))
  have HE := Lib.hid (equal_any (some ⟨w.heap.size, 0, none⟩) A' 4 4 n' c' (le4 (crcOf l)) l' _ _ _ (le4_sees w (crcOf l)) (hs'.alloc hB' _))
  clear hs hs'
  go_enter Try.func129, Try.ntmps129
  go_wp2_with (first
    | (go_at_call 117; refine HO.out.mono ?_; rintro e w' ⟨rfl, rfl⟩)
    | (go_at_call 116; refine HB.out.mono ?_; rintro e w' ⟨rfl, rfl⟩)
    | (go_at_call 142; refine HE.out.mono ?_; rintro e w' ⟨rfl, rfl⟩))
  go_ret
  exact ⟨rfl, (Below.refl _ _).alloc (Nat.le_refl _) _⟩
end Go.Proofs.Ytlggkeoihpcdiaa
