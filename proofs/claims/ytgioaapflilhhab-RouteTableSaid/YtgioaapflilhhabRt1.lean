/- Package route and the document's answers: the calls that only read; a copy of texts; how a map lies. -/
import Derived.Test.YtgioaapflilhhabRtM
import Derived.Test.YtgioaapflilhhabChecked
import Derived.ProofKit
import Derived.Lib.SliceRun
import Derived.Deep.QuietTactic
import Derived.BigQuiet
import Derived.Laws.Cover1
namespace Go.Proofs.Ytgioaapflilhhab
open Go.RowKit

theorem sl_txt : Try.prog.underlying 22 = some (.slice 9) := Try.underlying22
theorem str_row : (Try.prog.info? 9).map (fun i => (i.zero, i.size, i.bytes)) = some (some (.string ⟨#[]⟩), 1, 16) := by kernel_rfl

theorem ret_bool {a b : Bool} (h : a = b) : Ending.returned (.bool a) = .returned (.bool b) := by rw [h]
theorem ret_i64 {a b : Int} (h : a = b) : Ending.returned (.int .i64 a) = .returned (.int .i64 b) := by rw [h]

set_option maxHeartbeats 400000 in
theorem mayBe_yes (s : ByteArray) (w : World) (h : badS s = false) :
    Calls Try.prog 24 #[.string s] w fun e w' => e = .returned (.bool true) ∧ w' = w := by
  have h1 : (0 : Int) < (s.size : Int) := by have := badS_false h; omega
  have h2 : (s.size : Int) ≤ 16 := by have := badS_false h; omega
  clear h
  go_enter Try.func24, Try.ntmps24
  go_wp2_with fail
  go_ret
  exact ⟨by simp, rfl⟩
set_option maxHeartbeats 400000 in
theorem mayBe_no (s : ByteArray) (w : World) (h : badS s = true) :
    Calls Try.prog 24 #[.string s] w fun e w' => e = .returned (.bool false) ∧ w' = w := by
  by_cases h1 : (0 : Int) < (s.size : Int)
  · have h2 : ¬ (s.size : Int) ≤ 16 := by have := badS_tr h; omega
    clear h
    go_enter Try.func24, Try.ntmps24
    go_wp2_with fail
    go_ret
    exact ⟨by simp, rfl⟩
  · clear h
    go_enter Try.func24, Try.ntmps24
    go_wp2_with fail
    go_ret
    exact ⟨by simp, rfl⟩

/-- are they short? -/
def shortS (l : List ByteArray) : Bool := l.all fun s => decide (s.size ≤ 100)
def fewF (l : List ByteArray) (most : Int) : Bool := shortS l && decide ((l.length : Int) ≤ most)

set_option maxHeartbeats 400000 in
theorem few_any (A : Option Addr) (n c : Nat) (l : List ByteArray) (most : Int) (w : World) (B : Nat) (hs : Sees w B A n (txs l)) (hn : n ≤ maxLen) :
    Calls Try.prog 8 #[.slice A n c, .int .i64 most] w fun e w' => e = .returned (.bool (fewF l most)) ∧ w' = w := by
  obtain rfl : l.length = n := by have := hs.1; rwa [txs_length] at this
  unfold maxLen at hn
  have HS := Lib.hid hs
  clear hs
  go_enter Try.func8, Try.ntmps8
  go_wp2_with fail
  go_loop [9] (fun i => ∃ k : Nat, k ≤ l.length ∧ i = .int .i64 (k : Int) ∧ ∀ (j : Nat) (hj : j < l.length), j < k → l[j].size ≤ 100) (fun i => l.length - (intOf i).toNat)
  case atStart => exact ⟨0, Nat.zero_le _, rfl, fun _ _ h => absurd h (by omega)⟩
  case round =>
    obtain ⟨k, hk, rfl, hall⟩ := hrel
    have HALL := Lib.hid hall
    clear hall
    by_cases hlt : k < l.length
    · obtain ⟨b, off, rfl, hb, hcell⟩ := HS.out.txt hlt
      obtain ⟨x, hx⟩ : ∃ x, l[k] = x := ⟨_, rfl⟩
      rw [hx] at hcell
      have HX := Lib.hid hx
      clear hx hb
      have hlt' : (k : Int) < (l.length : Int) := by omega
      by_cases hsz : (100 : Int) < (x.size : Int)
      · go_wp2_with fail
        go_ret
        refine ⟨ret_bool ?_, rfl⟩
        have : shortS l = false := by
          unfold shortS
          rw [List.all_eq_false]
          exact ⟨x, by rw [← HX.out]; exact List.getElem_mem _, by simp; omega⟩
        unfold fewF
        rw [this]
        rfl
      · go_wp2_with fail
        go_round
        case rel => exact ⟨k + 1, by omega, by go_num, fun j hj hjk => by
          by_cases e : j = k
          · subst e; rw [HX.out]; omega
          · exact HALL.out j hj (by omega)⟩
        case measure => simp [intOf]; omega
    · have hge : ¬ (k : Int) < (l.length : Int) := by omega
      go_wp2_with fail
      go_ret
      refine ⟨ret_bool ?_, rfl⟩
      have : shortS l = true := by
        unfold shortS
        rw [List.all_eq_true]
        intro x hx
        obtain ⟨j, hj, rfl⟩ := List.mem_iff_getElem.1 hx
        exact decide_eq_true (HALL.out j hj (by omega))
      unfold fewF
      rw [this]
      rfl

theorem str_ne {x y : ByteArray} (h : x ≠ y) : (x.toList == y.toList) = false := by
  rw [beq_eq_false_iff_ne]
  exact fun e => h (toList_inj e)

set_option maxHeartbeats 800000 in
theorem same_any (A : Option Addr) (n c : Nat) (l : List ByteArray) (A2 : Option Addr) (n2 c2 : Nat) (l2 : List ByteArray) (w : World) (B B2 : Nat) (hs : Sees w B A n (txs l)) (hs2 : Sees w B2 A2 n2 (txs l2)) (hn : n ≤ maxLen) :
    Calls Try.prog 12 #[.slice A n c, .slice A2 n2 c2] w fun e w' => e = .returned (.bool (decide (l = l2))) ∧ Below w.heap.size w w' := by
  obtain rfl : l.length = n := by have := hs.1; rwa [txs_length] at this
  obtain rfl : l2.length = n2 := by have := hs2.1; rwa [txs_length] at this
  unfold maxLen at hn
  by_cases hl : l.length = l2.length
  · have hl' : ((l.length : Int) == (l2.length : Int)) = true := by simp [hl]
    have hl1 : ((l.length : Int) != (l2.length : Int)) = false := by simp [hl]
    have HL := Lib.hid hl
    have HS := Lib.hid hs
    have HS2 := Lib.hid hs2
    clear hs hs2 hl
    go_enter Try.func12, Try.ntmps12
    go_wp2_with fail
    go_loopw [13] (fun i wr => ∃ k : Nat, k ≤ l.length ∧ i = .int .i64 (k : Int) ∧ (∃ q, wr = w.drewN q) ∧ ∀ (j : Nat) (hj : j < l.length) (hj2 : j < l2.length), j < k → l[j] = l2[j]) (fun i _ => l.length - (intOf i).toNat)
    case atStart => exact ⟨0, Nat.zero_le _, rfl, ⟨0, rfl⟩, fun _ _ _ h => absurd h (by omega)⟩
    case round =>
      obtain ⟨k, hk, rfl, ⟨q, rfl⟩, hall⟩ := hrel
      have HALL := Lib.hid hall
      clear hall
      by_cases hlt : k < l.length
      · have hk2 : k < l2.length := by have := HL.out; omega
        obtain ⟨b, off, rfl, hb, hcell⟩ := HS.out.txt hlt
        obtain ⟨b2, off2, rfl, hb2, hcell2⟩ := HS2.out.txt hk2
        obtain ⟨x, hx⟩ : ∃ x, l[k] = x := ⟨_, rfl⟩
        obtain ⟨y, hy⟩ : ∃ y, l2[k] = y := ⟨_, rfl⟩
        rw [hx] at hcell
        rw [hy] at hcell2
        have HX := Lib.hid hx
        have HY := Lib.hid hy
        clear hx hy hb hb2
        have hlt' : (k : Int) < (l.length : Int) := by omega
        have hlt2 : (k : Int) < (l2.length : Int) := by omega
        by_cases hxy : x = y
        · subst hxy
          go_wp2_with fail
          go_quiet (fail)
          go_wp2_with fail
          go_roundw
          case rel => exact ⟨k + 1, by omega, by go_num, ⟨_, by first | rfl | (simp [World.drewN]; rfl)⟩, fun j hj hj2 hjk => by
            by_cases e : j = k
            · subst e; rw [HX.out, HY.out]
            · exact HALL.out j hj hj2 (by omega)⟩
          case measure => simp [intOf]; omega
        · have hne := str_ne hxy
          go_wp2_with fail
          go_quiet (fail)
          go_wp2_with fail
          go_ret
          refine ⟨ret_bool ?_, ?_⟩
          · rw [decide_eq_false]
            intro e
            subst e
            exact hxy (by rw [← HX.out, ← HY.out])
          · exact (below_drewN (below_drewN (Below.refl _ _) _) _)
      · have hge : ¬ (k : Int) < (l.length : Int) := by omega
        go_wp2_with fail
        go_ret
        refine ⟨ret_bool ?_, below_drewN (Below.refl _ _) _⟩
        rw [decide_eq_true]
        have h0 := HL.out
        exact List.ext_getElem h0 fun j h1 h2 => HALL.out j h1 h2 (by omega)
  · have hl1 : ((l.length : Int) != (l2.length : Int)) = true := by simp; omega
    have hl2 : ((l.length : Int) == (l2.length : Int)) = false := by simp; omega
    go_enter Try.func12, Try.ntmps12
    go_wp2_with fail
    go_ret
    exact ⟨ret_bool (by rw [decide_eq_false]; intro e; subst e; exact hl rfl), Below.refl _ _⟩
end Go.Proofs.Ytgioaapflilhhab
