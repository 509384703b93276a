/- The walks of package crc's Table: New, Add, Sum, Made. -/
import Derived.Test.YtjmpokaifnhnmaaC2
namespace Go.Proofs.Ytjmpokaifnhnmaa
open Go.RowKit

theorem u8_xor_cell (r : Nat) (x : UInt8) : bits BinOp.xor IntKind.u8 ((r : Int) % 256) (x.toNat : Int) = ((r % 256 ^^^ x.toNat : Nat) : Int) := by
  have h1 : r % 256 < 256 := Nat.mod_lt _ (by decide)
  have h2 : x.toNat < 256 := UInt8.toNat_lt x
  rw [show ((r : Int) % 256) = ((r % 256 : Nat) : Int) from by omega]
  exact u8_xor_nat _ _ h1 h2
theorem u32_xor_cell (a r : Nat) (ha : a < 4294967296) (hr : r < 4294967296) : bits BinOp.xor IntKind.u32 (a : Int) ((r : Int) / 256) = ((a ^^^ r / 256 : Nat) : Int) := by
  have h : r / 256 < 4294967296 := by omega
  rw [show ((r : Int) / 256) = ((r / 256 : Nat) : Int) from by omega]
  exact u32_xor_nat _ _ ha h

/-- where a slice stays as it is while the table's block turns -/
def Apart (w : World) (g : Nat) (A : Option Addr) (n : Nat) (xs : List Value) : Prop := ∃ B, ∀ w', w.grownBy w' (some g) → Sees w' B A n xs

/-- slices below the table, or nil, stay as they are -/
theorem apart_low {w : World} {g B n : Nat} {A : Option Addr} {xs : List Value} (h : Sees w B A n xs) (hB : B ≤ g) (hz : B ≤ w.heap.size) : Apart w g A n xs :=
  ⟨B, fun w' hg => h.grown hg hz (fun g' e => by injection e with e; omega)⟩
/-- slices in a row behind the table -/
theorem apart_new {w : World} {g b t n : Nat} {cs : Array Value} (hb : Blk w b t cs) (hne : b ≠ g) (hn : cs.size = n) : Apart w g (some ⟨b, 0, none⟩) n cs.toList :=
  ⟨b + 1, fun w' hg => ⟨by simp [hn], fun _ => ⟨b, 0, rfl, by omega, fun j u hu => by
    rw [(hb.grown hg (fun e => hne (by injection e))).cell, Nat.zero_add]
    simpa using hu⟩⟩⟩
/-- a slice that lies in another block -/
theorem apart_one {w : World} {g B b off n : Nat} {xs : List Value} (h : Sees w B (some ⟨b, off, none⟩) n xs) (hne : b ≠ g) (hb : b < w.heap.size) : Apart w g (some ⟨b, off, none⟩) n xs :=
  ⟨B, fun w' hg => ⟨h.1, fun hn => by
    obtain ⟨b', off', hA, hlt, hc⟩ := h.2 hn
    injection hA with hA
    injection hA with h1 h2
    subst h1
    subst h2
    exact ⟨b, off, rfl, hlt, fun j u hu => (World.cell?_of_block (hg.block b hb (fun e => hne (by injection e)))).trans (hc j u hu)⟩⟩⟩
theorem apart_none {w : World} {g : Nat} : Apart w g none 0 [] := ⟨0, fun _ _ => Sees.none_ _ _ _⟩
/-- a row that was just made, with its mark -/
theorem sees_mark (w : World) (cs : Array Value) (t : TypeId) (fr : Nat × Nat) : Sees (w.alloc (.cells cs t fr)) (w.alloc (.cells cs t fr)).heap.size (some ⟨w.heap.size, 0, none⟩) cs.size cs.toList := by
  refine ⟨by simp, fun _ => ⟨w.heap.size, 0, rfl, by simp, fun j u hu => ?_⟩⟩
  rw [cell_of_row _ w.heap.size (0 + j) cs t fr (heap_alloc_new w _), Nat.zero_add]
  simpa using hu
end Go.Proofs.Ytjmpokaifnhnmaa
