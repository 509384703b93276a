/- The walks of sync.Once (one goroutine) over the block of a crc.Table, and of the table's own functions. -/
import Derived.Test.YtnbkphdkpncjfaaC1
import Derived.Defers
import Derived.Laws.Pointers
import Derived.Laws.LoneSync
import Derived.RegionTactic
import Derived.RegionCalls
import Derived.Deep.RegionWith
import Derived.Deep.DeepCutAuto
import Derived.StillTailTactics
import Derived.ChangeAlike
namespace Go.Proofs.Ytnbkphdkpncjfaa
open Go.RowKit

theorem mark_disable (w : World) : (callFunc 86 #[]).run Try.prog w = .ok (.value (.tuple #[])) w := run_call_mark0 Try.func86 (by kernel_rfl) (by kernel_rfl) (by kernel_rfl) .disable (by kernel_rfl) w
theorem mark_enable (w : World) : (callFunc 88 #[]).run Try.prog w = .ok (.value (.tuple #[])) w := run_call_mark0 Try.func88 (by kernel_rfl) (by kernel_rfl) (by kernel_rfl) .enable (by kernel_rfl) w
theorem mark_acquire (a : Addr) (w : World) : (callFunc 89 #[.pointer (some a)]).run Try.prog w = .ok (.value (.tuple #[])) w := run_call_marked Try.func89 (by kernel_rfl) (by kernel_rfl) (by kernel_rfl) .acquire (by kernel_rfl) a w
theorem mark_release (a : Addr) (w : World) : (callFunc 91 #[.pointer (some a)]).run Try.prog w = .ok (.value (.tuple #[])) w := run_call_marked Try.func91 (by kernel_rfl) (by kernel_rfl) (by kernel_rfl) .releaseMerge (by kernel_rfl) a w

set_option maxRecDepth 100000 in
/-- (*sync/atomic.Bool).Store(true), deferred -/
theorem store_deferred (a : Addr) (x : Value) (u : FrameMode) (w : World) (hc : w.cell? a = some x) (hz : w.frozen? a = false) :
    CallsD Try.prog 81 #[.pointer (some a), .bool true] u w fun e u' w' => u' = u ∧ (e = .returned (.tuple #[]) ∧ w' = w.drew.setCell a (.int .u32 1)) := by
  have hc' : w.drew.cell? a = some x := by go_simp
  have hz' : w.drew.frozen? a = false := by go_simp
  have hst := run_call_store (P := Try.prog) Try.func84 (by kernel_rfl) (by kernel_rfl) (by kernel_rfl) (by kernel_rfl) (k := .u32) (y := 1) hc' hz'
  go_enter_d Try.func81, Try.ntmps81
  go_wp2
  go_region_calls
  all_goals (go_end0; exact ⟨rfl, rfl⟩)

set_option maxRecDepth 100000 in
/-- (*sync.Mutex).Unlock, deferred, the lock held and nobody waiting -/
theorem unlock_deferred (a : Addr) (u : FrameMode) (w : World) (hc : w.cell? a = some (.int .i32 1)) (hz : w.frozen? a = false) :
    CallsD Try.prog 80 #[.pointer (some a)] u w fun e u' w' => u' = u ∧ (e = .returned (.tuple #[]) ∧ w' = w.setCell a (.int .i32 0)) := by
  have hd := mark_disable
  have he := mark_enable
  have hr := mark_release
  have hadd := run_call_add (P := Try.prog) Try.func92 (by kernel_rfl) (by kernel_rfl) (by kernel_rfl) .i32 (by kernel_rfl) (y := -1) (s := 0) hc hz (by simp [go_sem]; rfl)
  have hcv := run_convert_to_unsafe (P := Try.prog) (src := 120) (dst := 124) Try.underlying120 Try.underlying124 (by kernel_rfl) hc
  go_enter_d Try.func80, Try.ntmps80
  go_wp2
  go_end0
  exact ⟨rfl, rfl⟩

set_option maxRecDepth 100000 in
/-- (*sync.Mutex).Lock, the lock free -/
theorem lock_free (a : Addr) (w : World) (hc : w.cell? a = some (.int .i32 0)) (hz : w.frozen? a = false) :
    Calls Try.prog 79 #[.pointer (some a)] w fun e w' => e = .returned (.tuple #[]) ∧ w' = w.setCell a (.int .i32 1) := by
  have hd := mark_disable
  have he := mark_enable
  have ha := mark_acquire
  have hcas := run_call_cas_hit (P := Try.prog) Try.func87 (by kernel_rfl) (by kernel_rfl) (by kernel_rfl) .i32 (by kernel_rfl) (y := 1) hc hz
  have hc' : (w.setCell a (.int .i32 1)).cell? a = some (.int .i32 1) := World.cell?_setCell_same w a _ hc
  have hcv := run_convert_to_unsafe (P := Try.prog) (src := 120) (dst := 124) Try.underlying120 Try.underlying124 (by kernel_rfl) hc'
  go_enter Try.func79, Try.ntmps79
  go_wp2
  go_end0
  exact ⟨rfl, rfl⟩

/-! ### the numbers -/
/-- cells in which so many numbers are made -/
def Filled (cs ds : Array Value) (k : Nat) : Prop :=
  ds.size = cs.size ∧ (∀ i, i < k → ds[3 + i]? = some (.int .u32 (hvk 8 i : Int))) ∧ (∀ j, (j < 3 ∨ 3 + k ≤ j) → ds[j]? = cs[j]?)
theorem Filled.zero (cs : Array Value) : Filled cs cs 0 := ⟨rfl, fun i h => absurd h (by omega), fun _ _ => rfl⟩
theorem Filled.next {cs ds : Array Value} {k : Nat} (h : Filled cs ds k) (hk : 3 + k < cs.size) : Filled cs (ds.setIfInBounds (3 + k) (.int .u32 (hvk 8 k : Int))) (k + 1) := by
  obtain ⟨h1, h2, h3⟩ := h
  refine ⟨by simp [h1], fun i hi => ?_, fun j hj => ?_⟩
  · rw [Array.getElem?_setIfInBounds]
    by_cases e : 3 + k = 3 + i
    · have : k = i := by omega
      subst this
      simp
      omega
    · rw [if_neg e]
      exact h2 i (by omega)
  · rw [Array.getElem?_setIfInBounds, if_neg (by omega)]
    exact h3 j (by omega)

set_option maxRecDepth 100000 in
set_option maxHeartbeats 800000 in
/-- (*crc.Table).makeNumbers -/
theorem makeNumbers_any (g : Nat) (cs : Array Value) (m : Int) (w : World) (hb : Blk w g 104 cs) (hsz : cs.size = 260) (hn : ∀ i, i < 256 → ∃ v, cs[3 + i]? = some v) (hm : cs[259]? = some (.int .i64 m)) (hmb : 0 ≤ m) (hmb2 : m ≤ 100) :
    Calls Try.prog 69 #[.pointer (some ⟨g, 0, none⟩)] w fun e w' => ∃ ds, e = .returned (.tuple #[]) ∧ Filled cs ds 256 ∧ Blk w' g 104 (ds.setIfInBounds 259 (.int .i64 (m + 1))) ∧ w.grownBy w' (some g) := by
  go_enter Try.func69, Try.ntmps69
  go_wp2_with fail
  go_loopw [3] (fun i wr => ∃ k : Nat, k ≤ 256 ∧ i = .int .i64 k ∧ (∃ ds, Filled cs ds k ∧ Blk wr g 104 ds) ∧ w.grownBy wr (some g)) (fun i _ => 256 - (intOf i).toNat)
  case atStart => exact ⟨0, Nat.zero_le _, rfl, ⟨cs, Filled.zero cs, hb⟩, gb_refl _ _⟩
  case round =>
    obtain ⟨k, hk, rfl, ⟨ds, hf, hblk⟩, hg⟩ := hrel
    by_cases hlt : k < 256
    · obtain ⟨v, hv⟩ := hn k hlt
      have hc : wr.cell? ⟨g, 3 + k, none⟩ = some v := by rw [hblk.cell, hf.2.2 _ (by omega)]; exact hv
      have hz := hblk.frozen (3 + k)
      have hset := hblk.set_ (3 + k) (.int .u32 (hvk 8 k : Int))
      have hnext := hf.next (by omega)
      clear hv hn hm hb
      have hkw : (k : Int) % 4294967296 = (k : Int) := by omega
      have hkw2 : IntKind.u32.wrap (k : Int) = (k : Int) := IntWalk.u32_in _ (by omega)
      go_upto_region 3 with (fail)
      go_region_with (go_at_call 70; refine (halve8_any k _ (by omega)).mono ?_; rintro e w' ⟨rfl, rfl⟩)
      go_wp2_with fail
      go_roundw
      case rel => exact ⟨k + 1, by omega, by go_num, ⟨_, hnext, hset.drew⟩, gb_drew (gb_set hg _ _)⟩
      case measure => simp [intOf]; omega
    · have hk' : k = 256 := by omega
      subst hk'
      have hc : wr.cell? ⟨g, 259, none⟩ = some (.int .i64 m) := by rw [hblk.cell, hf.2.2 _ (by omega)]; exact hm
      have hz := hblk.frozen 259
      have HB := Lib.hid hblk
      clear hblk hb hn hm
      go_wp2_with fail
      go_end0
      exact ⟨ds, rfl, hf, HB.out.set_ 259 _, gb_set hg _ _⟩

/-! ### the table's states -/
/-- no sum was asked for -/
def Tab0 (cs : Array Value) : Prop := cs.size = 260 ∧ cs[0]? = some (.int .u32 0) ∧ cs[1]? = some (.int .i32 0) ∧ cs[259]? = some (.int .i64 0) ∧ ∀ i, i < 256 → ∃ v, cs[3 + i]? = some v
/-- the numbers were made, once -/
def Tab1 (cs : Array Value) : Prop := cs.size = 260 ∧ cs[0]? = some (.int .u32 1) ∧ cs[1]? = some (.int .i32 0) ∧ cs[259]? = some (.int .i64 1) ∧ ∀ i, i < 256 → cs[3 + i]? = some (.int .u32 (hvk 8 i : Int))

/-- behind the first asking -/
def Asked (g : Nat) (w : World) (w' : World) : Prop := (∃ ds, Blk w' g 104 ds ∧ Tab1 ds) ∧ w.grownBy w' (some g)

set_option maxRecDepth 100000 in
set_option maxHeartbeats 1600000 in
theorem slow_any (g : Nat) (cs : Array Value) (w : World) (hb : Blk w g 104 cs) (ht : Tab0 cs) :
    Calls Try.prog 77 #[.pointer (some ⟨g, 0, none⟩), .func (.func 69) #[.pointer (some ⟨g, 0, none⟩)] #[]] w fun e w' => e = .returned (.tuple #[]) ∧ Asked g w w' := by
  obtain ⟨t0, t1, t2, t3, t4⟩ := ht
  have c1 : w.cell? ⟨g, 1, none⟩ = some (.int .i32 0) := by rw [hb.cell]; exact t2
  have f1 := hb.frozen 1
  have hb1 := hb.set_ 1 (.int .i32 1)
  have d0 : (w.setCell ⟨g, 1, none⟩ (.int .i32 1)).cell? ⟨g, 0, none⟩ = some (.int .u32 0) := by rw [hb1.cell, Array.getElem?_setIfInBounds, if_neg (by omega)]; exact t1
  have HN := Lib.hid (makeNumbers_any g (cs.setIfInBounds 1 (.int .i32 1)) 0 (w.setCell ⟨g, 1, none⟩ (.int .i32 1)) hb1 (by simp [t0]) (fun i hi => by rw [Array.getElem?_setIfInBounds, if_neg (by omega)]; exact t4 i hi) (by rw [Array.getElem?_setIfInBounds, if_neg (by omega)]; exact t3) (by omega) (by omega))
  have T0 := Lib.hid t0
  have HB := Lib.hid hb
  clear t0 t1 t2 t3 t4 hb hb1
  have hl := run_call_load (P := Try.prog) Try.func78 (by kernel_rfl) (by kernel_rfl) (by kernel_rfl) .u32 (by kernel_rfl) d0
  have hnot : ∀ (x : Bool) (w : World), (Op.unary .not (.bool x)).run Try.prog w = .ok (.bool (!x)) w := fun _ _ => rfl
  go_enter_defers Try.func77, Try.ntmps77
  go_wp2_with (first | (go_at_call 79; refine (lock_free ⟨g, 1, none⟩ _ c1 f1).mono ?_; rintro e w' ⟨rfl, rfl⟩) | (go_at_call 76; go_in) | (go_at_call 69; refine HN.out.mono ?_; rintro e w2 ⟨ds, rfl, hf, hb2, hg2⟩))
  obtain ⟨n1, n2, n3⟩ := hf
  have e0 : (ds.setIfInBounds 259 (Value.int IntKind.i64 (0 + 1)))[0]? = some (.int .u32 0) := by
    rw [Array.getElem?_setIfInBounds, if_neg (by omega), n3 0 (by omega), Array.getElem?_setIfInBounds, if_neg (by omega), ← HB.out.cell 0]
    rw [← d0]
    exact (World.cell?_setCell_other _ ⟨g, 1, none⟩ ⟨g, 0, none⟩ _ (by simp)).symm
  have e1 : (ds.setIfInBounds 259 (Value.int IntKind.i64 (0 + 1)))[1]? = some (.int .i32 1) := by
    rw [Array.getElem?_setIfInBounds, if_neg (by omega), n3 1 (by omega), Array.getElem?_setIfInBounds, if_pos rfl, if_pos (by rw [T0.out]; omega)]
  have hsz : (ds.setIfInBounds 259 (Value.int IntKind.i64 (0 + 1))).size = 260 := by simp [n1, T0.out]
  have e2 : (ds.setIfInBounds 259 (Value.int IntKind.i64 (0 + 1)))[259]? = some (.int .i64 1) := by
    rw [Array.getElem?_setIfInBounds, if_pos rfl, if_pos (by simp [n1, T0.out])]
    rfl
  have e3 : ∀ i, i < 256 → (ds.setIfInBounds 259 (Value.int IntKind.i64 (0 + 1)))[3 + i]? = some (.int .u32 (hvk 8 i : Int)) := fun i hi => by
    rw [Array.getElem?_setIfInBounds, if_neg (by omega)]
    exact n2 i hi
  generalize ds.setIfInBounds 259 (Value.int IntKind.i64 (0 + 1)) = es at *
  have q0 : w2.cell? ⟨g, 0, none⟩ = some (.int .u32 0) := by rw [hb2.cell]; exact e0
  -- the two deferred calls, the last laid first
  refine leaves_cons (f := 81) (args := #[.pointer (some ⟨g, 0, none⟩), .bool true]) (by simp) (by simp [go_sem]) ?_
  refine (store_deferred ⟨g, 0, none⟩ (.int .u32 0) .returning _ q0 (hb2.frozen 0)).mono ?_
  rintro e u' w'' ⟨rfl, rfl, rfl⟩
  have hb3 := (hb2.drew).set_ 0 (.int .u32 1)
  refine leaves_cons (f := 80) (args := #[.pointer (some ⟨g, 1, none⟩)]) (by simp [settle]) (by simp [go_sem]) ?_
  refine (unlock_deferred ⟨g, 1, none⟩ _ _ (by rw [hb3.cell, Array.getElem?_setIfInBounds, if_neg (by omega)]; exact e1) (hb3.frozen 1)).mono ?_
  rintro e u' w'' ⟨rfl, rfl, rfl⟩
  have hb4 := hb3.set_ 1 (.int .i32 0)
  have hgg : w.grownBy ((w2.drew.setCell ⟨g, 0, none⟩ (.int .u32 1)).setCell ⟨g, 1, none⟩ (.int .i32 0)) (some g) := gb_set (gb_set (gb_drew (gb_trans (gb_set (gb_refl w _) _ _) hg2)) _ _) _ _
  have hfin : Asked g w ((w2.drew.setCell ⟨g, 0, none⟩ (.int .u32 1)).setCell ⟨g, 1, none⟩ (.int .i32 0)) := by
    refine ⟨⟨_, hb4, by simp [hsz], ?_, ?_, ?_, fun i hi => ?_⟩, hgg⟩
    · rw [Array.getElem?_setIfInBounds, if_neg (by omega), Array.getElem?_setIfInBounds, if_pos rfl, if_pos (by omega)]
    · rw [Array.getElem?_setIfInBounds, if_pos rfl, if_pos (by simp; omega)]
    · rw [Array.getElem?_setIfInBounds, if_neg (by omega), Array.getElem?_setIfInBounds, if_neg (by omega)]
      exact e2
    · rw [Array.getElem?_setIfInBounds, if_neg (by omega), Array.getElem?_setIfInBounds, if_neg (by omega)]
      exact e3 i hi
  simp [Leaves, settle, results, Try.results77]
  exact hfin

set_option maxRecDepth 100000 in
set_option maxHeartbeats 1600000 in
/-- (*sync.Once).Do, the first time -/
theorem do_first (g : Nat) (cs : Array Value) (w : World) (hb : Blk w g 104 cs) (ht : Tab0 cs) :
    Calls Try.prog 68 #[.pointer (some ⟨g, 0, none⟩), .func (.func 69) #[.pointer (some ⟨g, 0, none⟩)] #[]] w fun e w' => e = .returned (.tuple #[]) ∧ Asked g w w' := by
  have HS := Lib.hid (slow_any g cs w hb ht)
  have d0 : w.cell? ⟨g, 0, none⟩ = some (.int .u32 0) := by rw [hb.cell]; exact ht.2.1
  clear hb ht
  have hl := run_call_load (P := Try.prog) Try.func78 (by kernel_rfl) (by kernel_rfl) (by kernel_rfl) .u32 (by kernel_rfl) d0
  have hnot : ∀ (x : Bool) (w : World), (Op.unary .not (.bool x)).run Try.prog w = .ok (.bool (!x)) w := fun _ _ => rfl
  go_enter Try.func68, Try.ntmps68
  go_wp2_with (first | (go_at_call 77; refine HS.out.mono ?_; rintro e w2 ⟨rfl, hA⟩) | (go_at_call 76; go_in))
  go_end0
  exact ⟨rfl, hA⟩

set_option maxRecDepth 100000 in
set_option maxHeartbeats 800000 in
/-- (*sync.Once).Do, later -/
theorem do_later (g : Nat) (cs : Array Value) (fv : Value) (w : World) (hb : Blk w g 104 cs) (ht : Tab1 cs) :
    Calls Try.prog 68 #[.pointer (some ⟨g, 0, none⟩), fv] w fun e w' => e = .returned (.tuple #[]) ∧ w' = w := by
  have d0 : w.cell? ⟨g, 0, none⟩ = some (.int .u32 1) := by rw [hb.cell]; exact ht.2.1
  clear hb ht
  have hl := run_call_load (P := Try.prog) Try.func78 (by kernel_rfl) (by kernel_rfl) (by kernel_rfl) .u32 (by kernel_rfl) d0
  have hnot : ∀ (x : Bool) (w : World), (Op.unary .not (.bool x)).run Try.prog w = .ok (.bool (!x)) w := fun _ _ => rfl
  go_enter Try.func68, Try.ntmps68
  go_wp2_with (go_at_call 76; go_in)
  go_end0
  exact ⟨rfl, rfl⟩

/-- the program's table lies in block g: asked already, or not -/
def Tbl (w : World) (g : Nat) (made : Bool) : Prop := ∃ cs, Blk w g 104 cs ∧ if made then Tab1 cs else Tab0 cs

set_option maxRecDepth 100000 in
theorem asked_any (g : Nat) (made : Bool) (w : World) (h : Tbl w g made) :
    Calls Try.prog 68 #[.pointer (some ⟨g, 0, none⟩), .func (.func 69) #[.pointer (some ⟨g, 0, none⟩)] #[]] w fun e w' => e = .returned (.tuple #[]) ∧ Asked g w w' := by
  obtain ⟨cs, hb, ht⟩ := h
  cases made
  · exact do_first g cs w hb ht
  · exact (do_later g cs _ w hb ht).mono fun e w' ⟨he, hw⟩ => ⟨he, by subst hw; exact ⟨⟨cs, hb, ht⟩, gb_refl _ _⟩⟩
end Go.Proofs.Ytnbkphdkpncjfaa
