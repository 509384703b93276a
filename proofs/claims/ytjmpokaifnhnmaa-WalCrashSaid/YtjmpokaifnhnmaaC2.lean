/- The walks of sync.Once (one goroutine) over the block of a crc.Table, and of the table's own functions. -/
import Derived.Test.YtjmpokaifnhnmaaC1
import Derived.Defers
import Derived.Laws.Pointers
import Derived.Laws.LoneSync
import Derived.RegionTactic
import Derived.RegionCalls
import Derived.Deep.RegionWith
import Derived.Deep.DeepCutAuto
import Derived.StillTailTactics
import Derived.ChangeAlike
namespace Go.Proofs.Ytjmpokaifnhnmaa
open Go.RowKit

/-! ### the numbers -/
/-- cells in which so many numbers are made -/
def Filled (cs ds : Array Value) (k : Nat) : Prop :=
  ds.size = cs.size ∧ (∀ i, i < k → ds[3 + i]? = some (.int .u32 (hvk 8 i : Int))) ∧ (∀ j, (j < 3 ∨ 3 + k ≤ j) → ds[j]? = cs[j]?)
theorem Filled.zero (cs : Array Value) : Filled cs cs 0 := ⟨rfl, fun i h => absurd h (by omega), fun _ _ => rfl⟩
theorem Filled.next {cs ds : Array Value} {k : Nat} (h : Filled cs ds k) (hk : 3 + k < cs.size) : Filled cs (ds.setIfInBounds (3 + k) (.int .u32 (hvk 8 k : Int))) (k + 1) := by
  obtain ⟨h1, h2, h3⟩ := h
  refine ⟨by simp [h1], fun i hi => ?_, fun j hj => ?_⟩
  · rw [Array.getElem?_setIfInBounds]
    by_cases e : 3 + k = 3 + i
    · have : k = i := by omega
      subst this
      simp
      omega
    · rw [if_neg e]
      exact h2 i (by omega)
  · rw [Array.getElem?_setIfInBounds, if_neg (by omega)]
    exact h3 j (by omega)

/-! ### the table's states -/
/-- no sum was asked for -/
def Tab0 (cs : Array Value) : Prop := cs.size = 260 ∧ cs[0]? = some (.int .u32 0) ∧ cs[1]? = some (.int .i32 0) ∧ cs[259]? = some (.int .i64 0) ∧ ∀ i, i < 256 → ∃ v, cs[3 + i]? = some v
/-- the numbers were made, once -/
def Tab1 (cs : Array Value) : Prop := cs.size = 260 ∧ cs[0]? = some (.int .u32 1) ∧ cs[1]? = some (.int .i32 0) ∧ cs[259]? = some (.int .i64 1) ∧ ∀ i, i < 256 → cs[3 + i]? = some (.int .u32 (hvk 8 i : Int))

end Go.Proofs.Ytjmpokaifnhnmaa
